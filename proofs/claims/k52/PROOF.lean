import PyProof.Rows.All
import Wide.All
import OpenK.AllK
import Wide.FinOn
import Lean
import PyProof.EqAt
import PyProof.EqKinds
import PyProof.TupleCall
import PyProof.NeKinds
import PyProof.CompFree
import PyProof.CompMap
import PyProof.ListRange
import PyProof.Rows.SortWalk
import PyProof.ExcArgsOwn
import PyProof.ExcAttrAll.ValueError
import KE.KTryMore
import PyProof.GenCompD
import PyProof.StrWalks
import PyProof.ConsumeS
import PyProof.StrOps2
import KE.KRevIter
import PyProof.Rows.FStr
import PyProof.ZipIter
import PyProof.DictWalks
import PyProof.DictCompW
import PyProof.DictRoads
import PyProof.MeetsDictList
import KE.KDictList
import KE.KIntText
import PyProof.Rows.StrNews
import PyProof.StrLawsReplace
import PyProof.StrLawsIdx
import PySem.Challenge.RW_overhaul_k52_a_line_read
set_option Elab.async false
set_option linter.all false
set_option maxRecDepth 100000
namespace L2
open PySem PySem.Spec PyProof.Rows
abbrev Key := Sum Int Str
def keyIs : Key → Value → Bool
  | .inl k, v => Value.isInt k v
  | .inr x, v => Value.isStrOf x v
def keyH (w : World) : Key → Int
  | .inl k => hashInt k
  | .inr x => hashStr w x
theorem keyIs_shape : ∀ {k : Key} {v : Value}, keyIs k v = true → (∃ i t, k = Sum.inl i ∧ v = Value.int i t) ∨ (∃ x t, k = Sum.inr x ∧ v = Value.str x t)
  | .inl i, v, h => by
    obtain ⟨t, e⟩ := Value.isInt_shape (k := i) (v := v) h
    exact .inl ⟨i, t, rfl, e⟩
  | .inr x, v, h => by
    obtain ⟨t, e⟩ := Value.isStrOf_shape (x := x) (v := v) h
    exact .inr ⟨x, t, rfl, e⟩
theorem key_ll (a b : Int) : decide ((Sum.inl a : Key) = Sum.inl b) = (a == b) := by
  by_cases e : a = b
  · subst e; simp
  · have h : ¬ (Sum.inl a : Key) = Sum.inl b := fun q => e (Sum.inl.inj q)
    rw [decide_eq_false h]
    exact (beq_eq_false_iff_ne.mpr e).symm
theorem key_rr (a b : Str) : decide ((Sum.inr a : Key) = Sum.inr b) = decide (a = b) := by
  by_cases e : a = b
  · subst e; simp
  · have h : ¬ (Sum.inr a : Key) = Sum.inr b := fun q => e (Sum.inr.inj q)
    rw [decide_eq_false h, decide_eq_false e]
theorem key_lr (a : Int) (b : Str) : decide ((Sum.inl a : Key) = Sum.inr b) = false := decide_eq_false (fun q => nomatch q)
theorem key_rl (a : Str) (b : Int) : decide ((Sum.inr a : Key) = Sum.inl b) = false := decide_eq_false (fun q => nomatch q)
def mixKind (prog : Program) (w : World) : PySem.KeyKind prog w Key where
  is := keyIs
  hash := keyH w
  inj := fun v a b ha hb => by
    rcases keyIs_shape ha with ⟨i, t, rfl, rfl⟩ | ⟨x, t, rfl, rfl⟩
    · rcases keyIs_shape hb with ⟨j, u, rfl, e⟩ | ⟨y, u, rfl, e⟩
      · injection e with e1 _; rw [e1]
      · exact nomatch e
    · rcases keyIs_shape hb with ⟨j, u, rfl, e⟩ | ⟨y, u, rfl, e⟩
      · exact nomatch e
      · injection e with e1 _; rw [e1]
  byValue := fun k v h => by
    rcases keyIs_shape h with ⟨i, t, rfl, rfl⟩ | ⟨x, t, rfl, rfl⟩ <;> rfl
  pyHash := fun hv h => by
    rcases keyIs_shape hv with ⟨i, t, rfl, rfl⟩ | ⟨x, t, rfl, rfl⟩
    · exact wpAny_pyHash_int h
    · exact wpAny_pyHash_str h
  eqBool := fun hu hv h => by
    rcases keyIs_shape hu with ⟨i, t, rfl, rfl⟩ | ⟨x, t, rfl, rfl⟩
    · rcases keyIs_shape hv with ⟨j, u, rfl, rfl⟩ | ⟨y, u, rfl, rfl⟩
      · rw [key_ll] at h; exact wpAny_eqBool_int h
      · rw [key_lr] at h; exact SeqAt.EqAt.int_str i t y u _ _ _ _ h
    · rcases keyIs_shape hv with ⟨j, u, rfl, rfl⟩ | ⟨y, u, rfl, rfl⟩
      · rw [key_rl] at h; exact SeqAt.EqAt.str_int x t j u _ _ _ _ h
      · rw [key_rr] at h; exact wpAny_eqBool_str h
  «strs» := fun k x t v h => by
    rcases keyIs_shape h with ⟨i, u, rfl, e⟩ | ⟨y, u, rfl, e⟩
    · exact nomatch e
    · injection e with e1 _
      subst e1
      cases v <;> rfl
end L2
namespace L2
open PySem PySem.Spec PyProof.Rows
inductive V where
  | non | bl (b : Bool) | int (i : Int) | str (x : Str) | byt (b : Array UInt8) | flt (b : UInt64) | ref (a : Addr) | ty (n : String)
  deriving DecidableEq
def RelV : V → Value → Prop
  | .non, u => u = Value.none
  | .bl b, u => u = Value.bool b
  | .int i, u => ∃ t, u = Value.int i t
  | .str x, u => ∃ t, u = Value.str x t
  | .byt b, u => ∃ t, u = Value.bytes b t
  | .flt b, u => ∃ t, u = Value.float b t
  | .ref a, u => u = Value.ref a
  | .ty n, u => u = Value.type n
abbrev Vals : List V → List Value → Prop := Paired RelV
theorem Vals.length {xs : List V} {us : List Value} (r : Vals xs us) : xs.length = us.length := Paired.length r
theorem Vals.get : ∀ {xs : List V} {us : List Value} {i : Nat} {x : V}, Vals xs us → xs[i]? = some x → ∃ u, us[i]? = some u ∧ RelV x u
  | _, _, _, _, .nil, e => by simp at e
  | _, _, 0, _, .cons r _, e => by simp at e; subst e; exact ⟨_, rfl, r⟩
  | _, _, i + 1, x, .cons _ t, e => by
    obtain ⟨u, h1, h2⟩ := Vals.get (i := i) (x := x) t (by simpa using e)
    exact ⟨u, by simpa using h1, h2⟩
theorem Vals.set {x : V} {u : Value} (r : RelV x u) : ∀ {xs : List V} {us : List Value} (i : Nat), Vals xs us → Vals (xs.set i x) (us.set i u)
  | _, _, _, .nil => .nil
  | _, _, 0, .cons _ t => .cons r t
  | _, _, i + 1, .cons q t => .cons q (Vals.set r i t)
theorem Vals.append : ∀ {xs ys : List V} {us ws : List Value}, Vals xs us → Vals ys ws → Vals (xs ++ ys) (us ++ ws)
  | _, _, _, _, .nil, s => s
  | _, _, _, _, .cons r t, s => .cons r (Vals.append t s)
theorem Vals.take : ∀ {xs : List V} {us : List Value} (n : Nat), Vals xs us → Vals (xs.take n) (us.take n)
  | _, _, 0, _ => .nil
  | _, _, _ + 1, .nil => .nil
  | _, _, n + 1, .cons r t => .cons r (Vals.take n t)
theorem Vals.drop : ∀ {xs : List V} {us : List Value} (n : Nat), Vals xs us → Vals (xs.drop n) (us.drop n)
  | _, _, 0, r => r
  | _, _, _ + 1, .nil => .nil
  | _, _, n + 1, .cons _ t => Vals.drop n t
def RelO : Option V → Option Value → Prop
  | some v, some u => RelV v u
  | none, none => True
  | _, _ => False
def KV {κ : Type} : List (κ × V) → List (κ × Value) → Prop := Paired fun (p : κ × V) (q : κ × Value) => p.1 = q.1 ∧ RelV p.2 q.2
def kV : Key → V
  | .inl i => .int i
  | .inr x => .str x
inductive HO where
  | lst (xs : List V)
  | tup (xs : List V)
  | dK (kvs : List (Key × V)) | dE (kvs : List (Str × V)) (ep : Nat)
  | set (S : Int → Bool) (n : Nat)
  | ins (C dx : Addr) (fs : List (Str × V))
  | own (x : Addr)
  | xd (fs : List (Str × V))
  | met (f x : Addr)
  | rng (lo hi : Int)
  | frz (o : Obj) (u : HO)
  | tbl (ps : Array Value)
  | ext (φ : Heap → Prop)
abbrev Hp := Addr → Option HO
def upd (H : Hp) (a : Addr) (o : HO) : Hp := fun b => if b = a then some o else H b
theorem upd_same {H : Hp} {a : Addr} {o : HO} : upd H a o a = some o := by unfold upd; rw [if_pos rfl]
theorem upd_ne {H : Hp} {a b : Addr} {o : HO} (h : b ≠ a) : upd H a o b = H b := by unfold upd; rw [if_neg h]
theorem ne_of_none {H : Hp} {a b : Addr} {o : HO} (h : H a = some o) (h' : H b = none) : a ≠ b := by
  intro e; subst e; rw [h] at h'; cases h'
section
variable (P : Program) (w : World)
def ObjOk (H : Hp) (h : Heap) (a : Addr) : HO → Prop
  | .lst xs => xs.length ≤ sizeLine ∧ ∃ (its : List Value) (n : Nat), Vals xs its ∧ h.get? a = some { cls := .type "list", data := .seq its.toArray n }
  | .tup xs => xs.length ≤ sizeLine ∧ ∃ its : List Value, Vals xs its ∧ IsTup h a its.toArray
  | .dK kvs => kvs.length ≤ sizeLine ∧ (a == sysModules) = false ∧ ∃ vs, KV kvs vs ∧ h.DictOf (mixKind P w) a vs
  | .dE kvs ep => kvs.length ≤ sizeLine ∧ (a == sysModules) = false ∧ ∃ vs, KV kvs vs ∧ h.DictAt (strKind P w) a vs ep
  | .set S n => h.SetOf (intKind P w) a S n
  | .ins C dx fs => H dx = some (.own a) ∧ fs.length ≤ 1000 ∧ dx ≠ a ∧ h.get? a = some (PySem.W.instObj C dx) ∧
      ∃ mA, h.Ns1 dx mA ∧ (∀ f, RelO (fs.lookup f) (mA f)) ∧ PySem.Within mA (fs.map (·.1))
  | .own _ => ∃ o, h.get? a = some o
  | .xd fs => ∃ mA, h.Ns1 a mA ∧ ∀ f, RelO (fs.lookup f) (mA f)
  | .rng lo hi => ∃ t u v, h.get? a = some { cls := .type "range", data := .fields #[.int lo t, .int hi u, .int 1 v] }
  | .frz o u => h.get? a = some o ∧ ObjOk H h a u
  | .tbl ps => h.get? a = some { cls := .none, data := .fields ps }
  | .met f x => h.get? a = some (PySem.W.methodObj (.ref f) (.ref x))
  | .ext φ => φ h ∧ (∃ o, h.get? a = some o) ∧ ∀ h1 h2 : Heap, φ h1 → (∀ o, h1.get? a = some o → h2.get? a = some o) → φ h2
def HOk (H : Hp) (h : Heap) : Prop := ∀ a o, H a = some o → ObjOk P w H h a o
end
section
variable {P : Program} {w : World} {H H' : Hp} {h h' : Heap} {a : Addr} {o : HO}
theorem ObjOk.lt (x : ObjOk P w H h a o) : a < h.objs.size := by
  cases o with
  | lst xs => obtain ⟨_, _, _, _, e⟩ := x; exact Heap.lt_size e
  | tup xs => obtain ⟨_, _, _, p⟩ := x; exact p.lt
  | dK kvs => obtain ⟨_, _, _, _, o, _, _, e, _⟩ := x; exact Heap.lt_size e
  | dE kvs ep => obtain ⟨_, _, _, _, o, _, e, _⟩ := x; exact Heap.lt_size e
  | set S n => obtain ⟨o, _, _, _, e, _⟩ := x; exact Heap.lt_size e
  | ins C dx fs => obtain ⟨_, _, _, e, _⟩ := x; exact Heap.lt_size e
  | own y => obtain ⟨_, e⟩ := x; exact Heap.lt_size e
  | xd fs => obtain ⟨_, ⟨_, _, _, e, _⟩, _⟩ := x; exact Heap.lt_size e
  | rng lo hi => obtain ⟨_, _, _, e⟩ := x; exact Heap.lt_size e
  | frz ob u => obtain ⟨e, _⟩ := x; exact Heap.lt_size e
  | tbl ps => exact Heap.lt_size (show h.get? a = some _ from x)
  | met f y => exact Heap.lt_size (show h.get? a = some _ from x)
  | ext φ => obtain ⟨_, ⟨_, e⟩, _⟩ := x; exact Heap.lt_size e
theorem ObjOk.stay (x : ObjOk P w H h a o) (k : ∀ b u, (b = a ∨ H b = some (.own a)) → h.get? b = some u → h'.get? b = some u)
    (ho : ∀ b, H b = some (.own a) → H' b = some (.own a)) (ht : ∀ b xs, H b = some (.tup xs) → H' b = some (.tup xs)) : ObjOk P w H' h' a o := by
  induction o with
  | lst xs => obtain ⟨z, its, n, r, e⟩ := x; exact ⟨z, its, n, r, k _ _ (.inl rfl) e⟩
  | tup xs => obtain ⟨z, its, r, ob, e, c⟩ := x; exact ⟨z, its, r, ob, k _ _ (.inl rfl) e, c⟩
  | dK kvs => obtain ⟨z, y, vs, r, ob, es, ep, e, c⟩ := x; exact ⟨z, y, vs, r, ob, es, ep, k _ _ (.inl rfl) e, c⟩
  | dE kvs ep => obtain ⟨z, y, vs, r, ob, es, e, c⟩ := x; exact ⟨z, y, vs, r, ob, es, k _ _ (.inl rfl) e, c⟩
  | set S n => obtain ⟨ob, es, ep, t, e, c⟩ := x; exact ⟨ob, es, ep, t, k _ _ (.inl rfl) e, c⟩
  | ins C dx fs =>
    obtain ⟨d, z, ne, e, mA, ⟨od, es, ep, e2, c⟩, r⟩ := x
    exact ⟨ho _ d, z, ne, k _ _ (.inl rfl) e, mA, ⟨od, es, ep, k _ _ (.inr d) e2, c⟩, r⟩
  | own y => obtain ⟨ob, e⟩ := x; exact ⟨ob, k _ _ (.inl rfl) e⟩
  | xd fs => obtain ⟨mA, ⟨od, es, ep, e, c⟩, r⟩ := x; exact ⟨mA, ⟨od, es, ep, k _ _ (.inl rfl) e, c⟩, r⟩
  | rng lo hi => obtain ⟨t, u, v, e⟩ := x; exact ⟨t, u, v, k _ _ (.inl rfl) e⟩
  | frz ob u ih => obtain ⟨e, q⟩ := x; exact ⟨k _ _ (.inl rfl) e, ih q⟩
  | tbl ps =>
    have e : h.get? a = some { cls := .none, data := .fields ps } := x
    show h'.get? a = some { cls := .none, data := .fields ps }
    exact k a _ (.inl rfl) e
  | met f y =>
    have e : h.get? a = some (PySem.W.methodObj (.ref f) (.ref y)) := x
    show h'.get? a = some (PySem.W.methodObj (.ref f) (.ref y))
    exact k a _ (.inl rfl) e
  | ext φ => obtain ⟨p, ⟨o, e⟩, st⟩ := x; exact ⟨st _ _ p fun o q => k _ _ (.inl rfl) q, ⟨o, k _ _ (.inl rfl) e⟩, st⟩
theorem HOk.lt (x : HOk P w H h) (e : H a = some o) : a < h.objs.size := (x a o e).lt
theorem HOk.fresh (x : HOk P w H h) (e : h.objs.size ≤ a) : H a = none := by
  cases q : H a with
  | none => rfl
  | some u => exact absurd (Nat.lt_of_lt_of_le (x.lt q) e) (Nat.lt_irrefl _)
theorem HOk.kept (x : HOk P w H h) (k : ∀ b u, h.get? b = some u → h'.get? b = some u) : HOk P w H h' := fun a o e =>
  (x a o e).stay (fun b u _ q => k b u q) (fun _ q => q) fun _ _ q => q
theorem HOk.laid (x : HOk P w H h) (k : ∀ b u, h.get? b = some u → h'.get? b = some u) (hp : h.objs.size ≤ a) (new : ObjOk P w (upd H a o) h' a o) : HOk P w (upd H a o) h' := fun b u e => by
  have hn := x.fresh hp
  by_cases hb : b = a
  · subst hb; rw [upd_same] at e; cases e; exact new
  · rw [upd_ne hb] at e
    exact (x b u e).stay (fun c v _ q => k c v q) (fun c q => by rw [upd_ne (ne_of_none q hn)]; exact q) fun c xs q => by rw [upd_ne (ne_of_none q hn)]; exact q
end
def Rd (H : Hp) (a : Addr) (u : HO) : Prop := H a = some u ∨ ∃ o, H a = some (.frz o u)
theorem Rd.of {H : Hp} {a : Addr} {u : HO} (h : H a = some u) : Rd H a u := .inl h
theorem Rd.ok {P : Program} {w : World} {H : Hp} {h : Heap} {a : Addr} {u : HO} (r : Rd H a u) (x : HOk P w H h) : ObjOk P w H h a u := by
  rcases r with r | ⟨o, r⟩
  · exact x a u r
  · obtain ⟨_, q⟩ := x a _ r
    exact q
def Mut : Option HO → Prop
  | some (.lst _) => True
  | some (.dK _) => True
  | some (.dE _ _) => True
  | some (.set _ _) => True
  | some (.ins _ _ _) => True
  | some (.ext _) => True
  | _ => False
section
variable {P : Program} {w : World} {H : Hp} {h h' : Heap} {x e : Addr} {o' : HO}
theorem HOk.write (ok : HOk P w H h) (mu : Mut (H x)) (he : e = x ∨ H e = some (.own x)) (k : ∀ b u, b ≠ e → h.get? b = some u → h'.get? b = some u) (heo : ∃ u, h'.get? e = some u)
    (new : ObjOk P w (upd H x o') h' x o') : HOk P w (upd H x o') h' := fun b u q => by
  have nown : ∀ c y, H c = some (.own y) → c ≠ x := fun c y r z => by subst z; rw [r] at mu; exact mu
  have ntup : ∀ c xs, H c = some (.tup xs) → c ≠ x := fun c xs r z => by subst z; rw [r] at mu; exact mu
  by_cases hb : b = x
  · subst hb; rw [upd_same] at q; cases q; exact new
  · rw [upd_ne hb] at q
    by_cases hbe : b = e
    · have q' : H b = some (.own x) := by
        rcases he with z | z
        · exact absurd (hbe.trans z) hb
        · rw [hbe]; exact z
      rw [q] at q'; cases q'
      obtain ⟨v, hv⟩ := heo
      exact ⟨v, by rw [hbe]; exact hv⟩
    · refine (ok b u q).stay (fun c v hc r => k c v ?_ r) (fun c r => by rw [upd_ne (nown c b r)]; exact r) fun c xs r => by rw [upd_ne (ntup c xs r)]; exact r
      rcases hc with rfl | hc
      · exact hbe
      · rintro rfl
        rcases he with z | z
        · exact nown c b hc z
        · rw [hc] at z; cases z; exact hb rfl
end
structure Un (fs ex : List Addr) (H H' : Hp) (h h' : Heap) : Prop where
  keep : ∀ b o, h.get? b = some o → H b = none → b ∉ fs → b ∉ ex → h'.get? b = some o
  slot : ∀ b o, h.get? b = some o → H b = none → b ∈ fs → b ∉ ex → ∃ sl, h'.get? b = some { o with slots := sl }
  free : ∀ b o, h.get? b = some o → H b = none → b ∉ ex → H' b = none
  there : ∀ b o, h.get? b = some o → b ∉ ex → ∃ o', h'.get? b = some o'
  tups : ∀ b xs, H b = some (.tup xs) → H' b = some (.tup xs)
  frzs : ∀ b o u, H b = some (.frz o u) → H' b = some (.frz o u)
  tbls : ∀ b ps, H b = some (.tbl ps) → ∃ more, H' b = some (.tbl (ps ++ more))
section
variable {fs fs' ex ex' : List Addr} {H H1 H2 : Hp} {h h1 h2 h' : Heap} {a x e : Addr} {o : HO}
theorem Un.any (u : Un fs ex H H1 h h1) {b : Addr} {ob : Obj} (q : h.get? b = some ob) (n : H b = none) (hx : b ∉ ex) : ∃ sl, h1.get? b = some { ob with slots := sl } := by
  by_cases hb : b ∈ fs
  · exact u.slot b ob q n hb hx
  · exact ⟨ob.slots, u.keep b ob q n hb hx⟩
theorem Un.trans (a : Un fs ex H H1 h h1) (b : Un fs ex H1 H2 h1 h2) : Un fs ex H H2 h h2 where
  keep := fun c ob q n hc hx => b.keep c ob (a.keep c ob q n hc hx) (a.free c ob q n hx) hc hx
  slot := fun c ob q n hc hx => by
    obtain ⟨sl, e1⟩ := a.slot c ob q n hc hx
    obtain ⟨sl', e2⟩ := b.slot c _ e1 (a.free c ob q n hx) hc hx
    exact ⟨sl', e2⟩
  free := fun c ob q n hx => by
    obtain ⟨o', e1⟩ := a.there c ob q hx
    exact b.free c o' e1 (a.free c ob q n hx) hx
  there := fun c ob q hx => by
    obtain ⟨o', e1⟩ := a.there c ob q hx
    exact b.there c o' e1 hx
  tups := fun c xs q => b.tups c xs (a.tups c xs q)
  frzs := fun c ob xs q => b.frzs c ob xs (a.frzs c ob xs q)
  tbls := fun c ps q => by
    obtain ⟨m1, e1⟩ := a.tbls c ps q
    obtain ⟨m2, e2⟩ := b.tbls c _ e1
    exact ⟨m1 ++ m2, by rw [e2, Array.append_assoc]⟩
theorem Un.kept (k : ∀ b u, h.get? b = some u → h'.get? b = some u) : Un fs ex H H h h' :=
  ⟨fun b ob q _ _ _ => k b ob q, fun b ob q _ _ _ => ⟨ob.slots, k b ob q⟩, fun _ _ _ n _ => n, fun b ob q _ => ⟨ob, k b ob q⟩, fun _ _ q => q, fun _ _ _ q => q, fun _ ps q => ⟨#[], by rw [q]; simp⟩⟩
theorem Un.refl : Un fs ex H H h h := Un.kept fun _ _ q => q
theorem Un.laid (k : ∀ b u, h.get? b = some u → h'.get? b = some u) (hp : h.objs.size ≤ a) (hn : H a = none) : Un fs ex H (upd H a o) h h' where
  keep := fun b u q _ _ _ => k b u q
  slot := fun b u q _ _ _ => ⟨u.slots, k b u q⟩
  free := fun b u q n _ => by rw [upd_ne (Nat.ne_of_lt (Nat.lt_of_lt_of_le (Heap.lt_size q) hp))]; exact n
  there := fun b u q _ => ⟨u, k b u q⟩
  tups := fun b xs q => by rw [upd_ne (ne_of_none q hn)]; exact q
  frzs := fun b u xs q => by rw [upd_ne (ne_of_none q hn)]; exact q
  tbls := fun b ps q => ⟨#[], by rw [upd_ne (ne_of_none q hn), q]; simp⟩
theorem Un.write (mu : Mut (H x)) (he : e = x ∨ H e = some (.own x)) (k : ∀ b u, b ≠ e → h.get? b = some u → h'.get? b = some u) (heo : ∃ u, h'.get? e = some u) : Un fs ex H (upd H x o) h h' := by
  have hx : ∀ b, H b = none → b ≠ x := fun b n z => by subst z; rw [n] at mu; exact mu
  have hb : ∀ b, H b = none → b ≠ e := fun b n z => by
    subst z
    rcases he with r | r
    · exact hx b n r
    · rw [n] at r; cases r
  have hm : ∀ b u, H b = some u → ¬ Mut (some u) → b ≠ x := fun b u q nm z => by subst z; rw [q] at mu; exact nm mu
  refine ⟨fun b u q n _ _ => k b u (hb b n) q, fun b u q n _ _ => ⟨u.slots, k b u (hb b n) q⟩, fun b u q n _ => by rw [upd_ne (hx b n)]; exact n, fun b u q _ => ?_,
    fun b xs q => by rw [upd_ne (hm b _ q fun z => z)]; exact q, fun b u xs q => by rw [upd_ne (hm b _ q fun z => z)]; exact q, fun b ps q => ⟨#[], by rw [upd_ne (hm b _ q fun z => z), q]; simp⟩⟩
  by_cases hbe : b = e
  · subst hbe; exact heo
  · exact ⟨u, k b u hbe q⟩
theorem Un.mono (u : Un fs ex H H1 h h1) (hs : ∀ b ∈ fs, b ∈ fs') (hx : ∀ b ∈ ex, b ∈ ex') : Un fs' ex' H H1 h h1 :=
  ⟨fun b ob q n hb he => u.keep b ob q n (fun z => hb (hs b z)) fun z => he (hx b z), fun _ _ q n _ he => u.any q n fun z => he (hx _ z), fun b ob q n he => u.free b ob q n fun z => he (hx b z), fun b ob q he => u.there b ob q fun z => he (hx b z), u.tups, u.frzs, u.tbls⟩
end
def trk (h : Heap) (H : Hp) : List Addr := (List.range h.objs.size).filter fun a => (H a).isSome
def hidT (h : Heap) (H : Hp) : Heap := PySem.W.hideAll h (trk h H)
theorem hidT_size (h : Heap) (H : Hp) : (hidT h H).objs.size = h.objs.size := PySem.W.hideAll_size _ _
theorem hidT_get {h : Heap} {H : Hp} {b : Addr} {o : Obj} (e : h.get? b = some o) (n : H b = none) : (hidT h H).get? b = some o :=
  PySem.W.hideAll_get _ e fun hm => by
    have q : (H b).isSome = true := (List.mem_filter.mp hm).2
    rw [n] at q; simp at q
theorem of_hidT {h : Heap} {H : Hp} {b : Addr} {o : Obj} (e : (hidT h H).get? b = some o) : h.get? b = some o ∧ H b = none := by
  have e' : h.get? b = some o := PySem.W.of_hideAll (trk h H) e
  refine ⟨e', ?_⟩
  cases q : H b with
  | none => rfl
  | some x =>
    have hm : b ∈ trk h H := List.mem_filter.mpr ⟨List.mem_range.mpr (Heap.lt_size e'), by simp [q]⟩
    have z : (hidT h H).get? b = none := PySem.W.hideAll_none (trk h H) hm
    rw [z] at e; cases e
def allNews (g h : Heap) (L : Addr) : List (Addr × Obj) := (List.range h.objs.size).filterMap fun a => if a = L ∨ (g.get? a).isSome = true then none else (h.get? a).map fun o => (a, o)
def rest (g h : Heap) (L d : Addr) : List (Addr × Obj) := (allNews g h L).filter fun p => decide (p.1 ≠ d)
end L2
namespace L2
open PySem PySem.Spec PyProof.Rows
structure Mod (K : PySem.W.Frag) (mg : Str → Option Value) (base : Heap) : Prop where
  kin : K.In base
  glob : base.Ns mainGlobals mg
  blt : ∃ mb, base.Ns builtinsNs mb ∧ ∀ x : Str, x ≠ "__name__" → mb x = bootBuiltins x
  nolimit : base.NoLimit
structure Cx where
  prog : Program
  w : World
  K : PySem.W.Frag
  mg : Str → Option Value
  base : Heap
  A : Around
  N : List Str
  s₀ : Shared
  H₀ : Hp
  env : Env
  outer : List Env
  stack : List Env
  ex : List Addr
  fn : Str → Bool
  calm : Bool
  pn : List (Addr × Obj)
  xe : Value → Shared → Prop
def frs (l : List Env) : List Addr := l.filterMap (·.frame)
abbrev Cx.fs (X : Cx) : List Addr := frs X.outer
def Vis (sc : Scope) (x : Str) : Prop := sc.names.lookup x = some .local ∨ sc.names.lookup x = some .cell ∨ sc.names.lookup x = some .free
def Loc (sc : Scope) (x : Str) : Prop := sc.names.lookup x = some .local ∨ sc.names.lookup x = some .cell
def Look (env : Env) (h : Heap) (m : Str → Option Value) (x : Str) (u : Value) : Prop :=
  (env.kindOf x = some .local ∧ m x = some u) ∨ ((env.kindOf x = some .cell ∨ env.kindOf x = some .free) ∧ ∃ c, env.cells.lookup x = some c ∧ h.IsCell c (some u))
structure Cx.Ok (X : Cx) : Prop where
  mod : Mod X.K X.mg X.base
  kind : X.env.scope.kind = .function
  glob : X.env.globals = mainGlobals
  blt : X.env.builtins = builtinsNs
  above : X.s₀.heap.objs.size ≤ X.env.locals
  inj : ∀ x y c, X.env.cells.lookup x = some c → X.env.cells.lookup y = some c → x = y
  has : ∀ x, (X.env.kindOf x = some .cell ∨ X.env.kindOf x = some .free) → ∃ c, X.env.cells.lookup x = some c
  cab : ∀ x c, X.fn x = true → X.env.cells.lookup x = some c → X.s₀.heap.objs.size ≤ c
  hd : X.calm = true → X.A.handled = none
  frames : X.A.frames = some X.stack
  stk : X.stack = X.outer ∨ (X.stack = X.env :: X.outer ∧ X.env.frame = some X.env.locals)
  exf : ∀ b ∈ X.ex, b ≠ X.env.locals ∧ ∀ x c, X.env.cells.lookup x = some c → c ≠ b
  bs : ∀ b o, X.base.get? b = some o → X.s₀.heap.get? b = some o ∧ X.H₀ b = none
  bsz : X.base.objs.size ≤ X.s₀.heap.objs.size
  noex : ∀ b o, X.base.get? b = some o → b ∉ X.ex
  exfs : ∀ b ∈ X.ex, b ∉ X.fs
  funs : X.s₀.heap.FunFrames X.base X.outer
  frf : ∀ b ∈ X.fs, X.H₀ b = none
structure Inv (X : Cx) (pins : List (Addr × Obj)) (σ : List (Option V)) (H : Hp) (s : Shared) : Prop where
  ok : X.Ok
  os : s.os = X.s₀.os
  bare : AllBare s.gens
  base : Un X.fs X.ex X.H₀ H X.s₀.heap s.heap
  loc : ∃ m, s.heap.Ns X.env.locals m ∧ ∀ (i : Nat) (x : Str) (v : V), X.N[i]? = some x → σ[i]? = some (some v) → Vis X.env.scope x → ∃ u, RelV v u ∧ Look X.env s.heap m x u
  cell : ∀ x c, X.env.cells.lookup x = some c → ∃ v, s.heap.IsCell c v
  free : H X.env.locals = none
  freeC : ∀ x c, X.env.cells.lookup x = some c → H c = none
  pin : ∀ p ∈ X.pn ++ pins, s.heap.get? p.1 = some p.2 ∧ H p.1 = none ∧ p.1 ≠ X.env.locals ∧ p.1 ∉ X.fs ∧ ∀ v, p.2.data ≠ .cell v
  hok : HOk X.prog X.w H s.heap
  len : σ.length = X.N.length
section
variable {X : Cx} {pins : List (Addr × Obj)} {σ : List (Option V)} {H H' : Hp} {s : Shared} {h' : Heap}
theorem Cx.Ok.nofr (ok : X.Ok) {b : Addr} {o : Obj} (e : X.base.get? b = some o) : b ∉ X.fs := fun hb => by
  have := (ok.funs.mem hb).1
  rw [e] at this; cases this
theorem Inv.bs (I : Inv X pins σ H s) : ∀ b o, X.base.get? b = some o → s.heap.get? b = some o ∧ H b = none := fun b o e =>
  ⟨I.base.keep b o (I.ok.bs b o e).1 (I.ok.bs b o e).2 (I.ok.nofr e) (I.ok.noex b o e), I.base.free b o (I.ok.bs b o e).1 (I.ok.bs b o e).2 (I.ok.noex b o e)⟩
theorem Inv.bk (I : Inv X pins σ H s) : ∀ b o, X.base.get? b = some o → s.heap.get? b = some o := fun b o e => (I.bs b o e).1
theorem Inv.mod (I : Inv X pins σ H s) : Mod X.K X.mg X.base := I.ok.mod
theorem Inv.kIn (I : Inv X pins σ H s) : X.K.In s.heap := I.ok.mod.kin.keeps I.bk
theorem Inv.nolimit (I : Inv X pins σ H s) : s.heap.NoLimit := I.ok.mod.nolimit.keeps I.bk
theorem Inv.fr (I : Inv X pins σ H s) : ∃ m, Fr X.base X.env.locals s.heap m :=
  let ⟨m, hn, _⟩ := I.loc
  ⟨m, hn, I.bk, Nat.le_trans I.ok.bsz I.ok.above⟩
theorem Inv.lt (I : Inv X pins σ H s) : X.env.locals < s.heap.objs.size := let ⟨_, hn, _⟩ := I.loc; hn.lt
theorem Inv.sz (I : Inv X pins σ H s) : X.s₀.heap.objs.size ≤ s.heap.objs.size := Nat.le_trans I.ok.above (Nat.le_of_lt I.lt)
theorem Inv.nofs (I : Inv X pins σ H s) {a : Addr} (h : s.heap.objs.size ≤ a) : a ∉ X.fs := fun hb => by
  obtain ⟨_, o, ho, _⟩ := I.ok.funs.mem hb
  exact absurd (Nat.lt_of_lt_of_le (Heap.lt_size ho) (Nat.le_trans I.sz h)) (Nat.lt_irrefl _)
theorem Inv.cne (I : Inv X pins σ H s) : ∀ x c, X.env.cells.lookup x = some c → c ≠ X.env.locals := fun x c e z => by
  obtain ⟨v, o, ho, hd⟩ := I.cell x c e
  obtain ⟨m, ⟨o', es, ep, ho', hd', _⟩, _⟩ := I.loc
  rw [z, ho'] at ho; cases ho; rw [hd'] at hd; cases hd
theorem Inv.funs (I : Inv X pins σ H s) : s.heap.FunFrames X.base X.outer := by
  have all : ∀ (l : List Env), (∀ b ∈ frs l, b ∈ X.fs) → X.s₀.heap.FunFrames X.base l → s.heap.FunFrames X.base l := by
    intro l
    induction l with
    | nil => intro _ _; trivial
    | cons env r ih =>
      intro hs hl
      obtain ⟨hk, ⟨L, o, hf, hn, ho, hd⟩, hr⟩ := hl
      have hL : L ∈ X.fs := hs L (by unfold frs; rw [List.filterMap_cons, hf]; exact List.mem_cons_self)
      obtain ⟨sl, e⟩ := I.base.slot L o ho (I.ok.frf L hL) hL fun z => I.ok.exfs L z hL
      exact ⟨hk, ⟨L, _, hf, hn, e, hd⟩, ih (fun b hb => hs b (by unfold frs; rw [List.filterMap_cons, hf]; exact List.mem_cons_of_mem _ hb)) hr⟩
  exact all X.outer (fun _ hb => hb) I.ok.funs
theorem Inv.stack (I : Inv X pins σ H s) : s.heap.FunFrames X.base X.stack := by
  rcases I.ok.stk with e | ⟨e, hf⟩
  · rw [e]; exact I.funs
  · rw [e]
    obtain ⟨m, hn, _⟩ := I.loc
    refine .cons (by rw [I.ok.kind]; decide) hf hn ?_ I.funs
    exact Heap.get?_none_of_le (Nat.le_trans I.ok.bsz I.ok.above)
theorem Inv.stkSub (I : Inv X pins σ H s) : ∀ b ∈ frs X.stack, b ∈ X.env.locals :: X.fs := fun b hb => by
  rcases I.ok.stk with e | ⟨e, hf⟩
  · rw [e] at hb; exact List.mem_cons_of_mem _ hb
  · rw [e] at hb
    unfold frs at hb
    rw [List.filterMap_cons, hf] at hb
    exact hb
theorem Inv.stkFree (I : Inv X pins σ H s) : ∀ b ∈ frs X.stack, H b = none := fun b hb => by
  rcases List.mem_cons.mp (I.stkSub b hb) with e | hb
  · rw [e]; exact I.free
  · obtain ⟨_, o, ho, _⟩ := I.ok.funs.mem hb
    exact I.base.free b o ho (I.ok.frf b hb) fun z => I.ok.exfs b z hb
theorem Inv.step {g' : Array GenState} {t' : Nat} {d' : Drawn} {ch : List Addr} (I : Inv X pins σ H s)
    (hch : ∀ b ∈ ch, (b ∈ X.ex ∨ X.s₀.heap.objs.size ≤ b) ∧ b ≠ X.env.locals ∧ (∀ x c, X.env.cells.lookup x = some c → c ≠ b) ∧ ∀ p ∈ X.pn ++ pins, p.1 ≠ b)
    (keep : ∀ b o, b ≠ X.env.locals → b ∉ X.fs → b ∉ ch → s.heap.get? b = some o → H b = none → h'.get? b = some o)
    (slot : ∀ b o, b ≠ X.env.locals → b ∈ X.fs → b ∉ ch → s.heap.get? b = some o → H b = none → ∃ sl, h'.get? b = some { o with slots := sl }) (free : ∀ b o, b ∉ ch → s.heap.get? b = some o → H b = none → H' b = none)
    (there : ∀ b o, b ∉ ch → s.heap.get? b = some o → ∃ o', h'.get? b = some o')
    (tups : ∀ b xs, H b = some (.tup xs) → H' b = some (.tup xs)) (frzs : ∀ b o u, H b = some (.frz o u) → H' b = some (.frz o u)) (tbls : ∀ b ps, H b = some (.tbl ps) → ∃ more, H' b = some (.tbl (ps ++ more)))
    (ns : ∀ m, s.heap.Ns X.env.locals m → h'.Ns X.env.locals m) (hok : HOk X.prog X.w H' h') (hg : AllBare g') :
    Inv X pins σ H' { s with heap := h', gens := g', drawn := d', toks := t' } := by
  have neL : ∀ b o, X.s₀.heap.get? b = some o → b ≠ X.env.locals := fun b o e => Nat.ne_of_lt (Nat.lt_of_lt_of_le (Heap.lt_size e) I.ok.above)
  have neC : ∀ b o, X.s₀.heap.get? b = some o → b ∉ X.ex → b ∉ ch := fun b o e hx hb => by
    rcases (hch b hb).1 with z | z
    · exact hx z
    · exact absurd (Nat.lt_of_lt_of_le (Heap.lt_size e) z) (Nat.lt_irrefl _)
  have cellK : ∀ x c, X.env.cells.lookup x = some c → ∀ v, s.heap.IsCell c v → h'.IsCell c v := fun x c e v ⟨o, ho, hd⟩ => by
    have nch : c ∉ ch := fun z => (hch c z).2.2.1 x c e rfl
    by_cases hc : c ∈ X.fs
    · obtain ⟨sl, q⟩ := slot c o (I.cne x c e) hc nch ho (I.freeC x c e)
      exact ⟨_, q, hd⟩
    · exact ⟨o, keep c o (I.cne x c e) hc nch ho (I.freeC x c e), hd⟩
  refine ⟨I.ok, I.os, hg, ⟨fun b o e n hb hx => ?_, fun b o e n hb hx => ?_, fun b o e n hx => ?_, fun b o e hx => ?_, fun b xs e => tups b xs (I.base.tups b xs e), fun b o xs e => frzs b o xs (I.base.frzs b o xs e), fun b ps e => ?_⟩, ?_, fun x c e => ?_, ?_, fun x c e => ?_, fun p hp => ?_, hok, I.len⟩
  · exact keep b o (neL b o e) hb (neC b o e hx) (I.base.keep b o e n hb hx) (I.base.free b o e n hx)
  · obtain ⟨sl, e1⟩ := I.base.slot b o e n hb hx
    obtain ⟨sl', e2⟩ := slot b _ (neL b o e) hb (neC b o e hx) e1 (I.base.free b o e n hx)
    exact ⟨sl', e2⟩
  · obtain ⟨o', e1⟩ := I.base.there b o e hx
    exact free b o' (neC b o e hx) e1 (I.base.free b o e n hx)
  · obtain ⟨o', e1⟩ := I.base.there b o e hx
    exact there b o' (neC b o e hx) e1
  · obtain ⟨m1, e1⟩ := I.base.tbls b ps e
    obtain ⟨m2, e2⟩ := tbls b _ e1
    exact ⟨m1 ++ m2, by rw [e2, Array.append_assoc]⟩
  · obtain ⟨m, hn, hl⟩ := I.loc
    refine ⟨m, ns m hn, fun i x v e1 e2 e3 => ?_⟩
    obtain ⟨u, r, l⟩ := hl i x v e1 e2 e3
    refine ⟨u, r, ?_⟩
    rcases l with l | ⟨k, c, e, z⟩
    · exact .inl l
    · exact .inr ⟨k, c, e, cellK x c e _ z⟩
  · obtain ⟨v, z⟩ := I.cell x c e
    exact ⟨v, cellK x c e v z⟩
  · obtain ⟨m, ⟨o, _, _, ho, _⟩, _⟩ := I.loc
    exact free _ o (fun z => (hch _ z).2.1 rfl) ho I.free
  · obtain ⟨v, o, ho, hd⟩ := I.cell x c e
    exact free c o (fun z => (hch c z).2.2.1 x c e rfl) ho (I.freeC x c e)
  · obtain ⟨e, n, ne, nf, d⟩ := I.pin p hp
    have nch : p.1 ∉ ch := fun z => (hch p.1 z).2.2.2 p hp rfl
    exact ⟨keep p.1 p.2 ne nf nch e n, free p.1 p.2 nch e n, ne, nf, d⟩
theorem Inv.un {t' : Nat} (I : Inv X pins σ H s) (u : Un X.fs [] H H' s.heap h') (hok : HOk X.prog X.w H' h') : Inv X pins σ H' { s with heap := h', toks := t' } := by
  obtain ⟨m, ⟨o, es, ep, ho, r⟩, _⟩ := id I.loc
  obtain ⟨sl, hL⟩ := u.any ho I.free (by simp)
  exact I.step (g' := s.gens) (d' := s.drawn) (ch := []) (fun _ z => nomatch z) (fun b o _ hb _ e n => u.keep b o e n hb (by simp)) (fun b o _ hb _ e n => u.slot b o e n hb (by simp)) (fun b o _ e n => u.free b o e n (by simp)) (fun b o _ e => u.there b o e (by simp)) u.tups u.frzs u.tbls (fun m' hm => by
    obtain ⟨o', es', ep', ho', r'⟩ := hm
    rw [ho] at ho'; cases ho'
    exact ⟨_, es', ep', hL, r'⟩) hok I.bare
theorem Inv.call {g' : Array GenState} {t' : Nat} {d' : Drawn} {ch : List Addr} (I : Inv X pins σ H s) (u : Un (frs X.stack) ch H H' s.heap h') (hok : HOk X.prog X.w H' h') (hg : AllBare g')
    (hch : ∀ b ∈ ch, (b ∈ X.ex ∨ X.s₀.heap.objs.size ≤ b) ∧ b ≠ X.env.locals ∧ (∀ x c, X.env.cells.lookup x = some c → c ≠ b) ∧ ∀ p ∈ X.pn ++ pins, p.1 ≠ b) :
    Inv X pins σ H' { s with heap := h', gens := g', drawn := d', toks := t' } := by
  obtain ⟨m, ⟨o, es, ep, ho, r⟩, _⟩ := id I.loc
  obtain ⟨sl, hL⟩ := u.any ho I.free fun z => (hch _ z).2.1 rfl
  exact I.step (ch := ch) hch (fun b o hL hb hc e n => u.keep b o e n (fun z => (List.mem_cons.mp (I.stkSub b z)).elim hL hb) hc) (fun b o _ _ hc e n => u.any e n hc) (fun b o hc e n => u.free b o e n hc) (fun b o hc e => u.there b o e hc) u.tups u.frzs u.tbls (fun m' hm => by
    obtain ⟨o', es', ep', ho', r'⟩ := hm
    rw [ho] at ho'; cases ho'
    exact ⟨_, es', ep', hL, r'⟩) hok hg
theorem Inv.turned {t' : Nat} {it : Addr} (I : Inv X pins σ H s) (k : ∀ b o, b ≠ it → s.heap.get? b = some o → h'.get? b = some o) (hn : H it = none) (hL : it ≠ X.env.locals)
    (h1 : it ∈ X.ex ∨ X.s₀.heap.objs.size ≤ it) (h2 : ∀ x c, X.env.cells.lookup x = some c → c ≠ it) (h3 : ∀ p ∈ X.pn ++ pins, p.1 ≠ it) : Inv X pins σ H { s with heap := h', toks := t' } := by
  have nit : ∀ b u, H b = some u → b ≠ it := fun b u e z => by rw [z, hn] at e; cases e
  refine I.step (g' := s.gens) (d' := s.drawn) (ch := [it]) (fun b hb => ?_) (fun b o _ _ hc e _ => k b o (fun z => hc (by simp [z])) e) (fun b o _ _ hc e _ => ⟨o.slots, k b o (fun z => hc (by simp [z])) e⟩) (fun _ _ _ _ n => n)
    (fun b o hc e => ⟨o, k b o (fun z => hc (by simp [z])) e⟩) (fun _ _ e => e) (fun _ _ _ e => e) (fun b ps e => ⟨#[], by rw [e]; simp⟩) (fun m hm => ?_) (fun b u e => ?_) I.bare
  · have e : b = it := by simpa using hb
    subst e
    exact ⟨h1, hL, h2, h3⟩
  · obtain ⟨o, es, ep, ho, r⟩ := hm
    exact ⟨o, es, ep, k _ o (Ne.symm hL) ho, r⟩
  · refine (I.hok b u e).stay (fun c v hc q => k c v ?_ q) (fun _ q => q) fun _ _ q => q
    rcases hc with z | z
    · rw [z]; exact nit b u e
    · exact nit c _ z
theorem Inv.tok (I : Inv X pins σ H s) (t : Nat) : Inv X pins σ H { s with toks := t } := I.un (h' := s.heap) (t' := t) Un.refl I.hok
theorem Inv.kept {t' : Nat} (I : Inv X pins σ H s) (k : ∀ b u, s.heap.get? b = some u → h'.get? b = some u) : Inv X pins σ H { s with heap := h', toks := t' } := I.un (Un.kept k) (I.hok.kept k)
theorem Inv.laid {a : Addr} {o : HO} {t' : Nat} (I : Inv X pins σ H s) (k : ∀ b u, s.heap.get? b = some u → h'.get? b = some u) (hp : s.heap.objs.size ≤ a) (new : ObjOk X.prog X.w (upd H a o) h' a o) :
    Inv X pins σ (upd H a o) { s with heap := h', toks := t' } := I.un (Un.laid k hp (I.hok.fresh hp)) (I.hok.laid k hp new)
theorem Inv.write {x e : Addr} {o : HO} {t' : Nat} (I : Inv X pins σ H s) (mu : Mut (H x)) (he : e = x ∨ H e = some (.own x)) (k : ∀ b u, b ≠ e → s.heap.get? b = some u → h'.get? b = some u) (heo : ∃ u, h'.get? e = some u)
    (new : ObjOk X.prog X.w (upd H x o) h' x o) : Inv X pins σ (upd H x o) { s with heap := h', toks := t' } := I.un (Un.write mu he k heo) (I.hok.write mu he k heo new)
theorem Inv.pins_of {pins' : List (Addr × Obj)} (I : Inv X pins σ H s) (h : ∀ p ∈ pins', s.heap.get? p.1 = some p.2 ∧ H p.1 = none ∧ p.1 ≠ X.env.locals ∧ p.1 ∉ X.fs ∧ ∀ v, p.2.data ≠ .cell v) : Inv X pins' σ H s :=
  ⟨I.ok, I.os, I.bare, I.base, I.loc, I.cell, I.free, I.freeC, fun p hp => (List.mem_append.mp hp).elim (fun z => I.pin p (List.mem_append_left _ z)) (h p), I.hok, I.len⟩
theorem nodup_ix {N : List Str} (hN : N.Nodup) {i j : Nat} {x : Str} (a : N[i]? = some x) (b : N[j]? = some x) : i = j := by
  obtain ⟨h1, e1⟩ := List.getElem?_eq_some_iff.mp a
  obtain ⟨h2, e2⟩ := List.getElem?_eq_some_iff.mp b
  exact (List.getElem_inj hN).mp (e1.trans e2.symm)
theorem store_ok2 {M : Model} {A : Around} {E : Value → Shared → Prop} {i : Nat} {x : Str} {v : V} {u : Value} {Q : Unit → Shared → Prop} (I : Inv X pins σ H s) (hN : X.N.Nodup) (hi : X.N[i]? = some x) (hx : Loc X.env.scope x) (r : RelV v u)
    (h : ∀ s', Inv X pins (σ.set i (some v)) H s' → (∃ a, Heap.SameBut a s.heap s'.heap ∧ (a = X.env.locals ∨ X.env.cells.lookup x = some a)) → Q () s') (hf : X.fn x = true ∨ X.env.scope.names.lookup x = some .local := by first | exact .inl rfl | exact .inr rfl | assumption) : wpAny M A (storeName X.env x u) Q E s := by
  obtain ⟨m, hn, hl⟩ := id I.loc
  have hcls : (X.env.scope.kind == .class || (X.env.scope.kind == .module && X.env.locals != X.env.globals)) = false := by rw [I.ok.kind]; rfl
  have hiσ : i < σ.length := by rw [I.len]; exact (List.getElem?_eq_some_iff.mp hi).1
  have cne := I.cne
  have tracked : ∀ {a : Addr} {h' : Heap}, (∃ o, s.heap.get? a = some o ∧ H a = none) → Heap.SameBut a s.heap h' → HOk X.prog X.w H h' := fun {a h'} ha hs b ob e => by
    obtain ⟨_, _, hfree⟩ := ha
    refine (I.hok b ob e).stay (fun c w' hc q => (hs.2 c ?_).trans q) (fun _ q => q) fun _ _ q => q
    rintro rfl
    rcases hc with rfl | hc
    · rw [hfree] at e; cases e
    · rw [hfree] at hc; cases hc
  rcases hx with hk | hk
  · refine wpAny_storeName_local hk hn (fun h' hn' hs => ?_) hcls
    obtain ⟨oL, _, _, hoL, _⟩ := id hn
    refine h _ ⟨I.ok, I.os, I.bare, ⟨fun b o e n hb hx => ?_, fun b o e n hb hx => ?_, I.base.free, fun b o e hx => ?_, I.base.tups, I.base.frzs, I.base.tbls⟩, ⟨_, hn', fun j y v' e1 e2 e3 => ?_⟩, fun y c e => ?_, I.free, I.freeC, fun p hp => ?_, tracked ⟨oL, hoL, I.free⟩ hs, by simpa using I.len⟩ ⟨_, hs, .inl rfl⟩
    · exact (hs.2 b (Nat.ne_of_lt (Nat.lt_of_lt_of_le (Heap.lt_size e) I.ok.above))).trans (I.base.keep b o e n hb hx)
    · obtain ⟨sl, e1⟩ := I.base.slot b o e n hb hx
      exact ⟨sl, (hs.2 b (Nat.ne_of_lt (Nat.lt_of_lt_of_le (Heap.lt_size e) I.ok.above))).trans e1⟩
    · obtain ⟨o', e1⟩ := I.base.there b o e hx
      exact ⟨o', (hs.2 b (Nat.ne_of_lt (Nat.lt_of_lt_of_le (Heap.lt_size e) I.ok.above))).trans e1⟩
    · by_cases hj : j = i
      · subst hj
        rw [hi] at e1; cases e1
        rw [List.getElem?_set_self hiσ] at e2
        cases e2
        exact ⟨u, r, .inl ⟨hk, by simp⟩⟩
      · rw [List.getElem?_set_ne (Ne.symm hj)] at e2
        obtain ⟨u', r', q⟩ := hl j y v' e1 e2 e3
        refine ⟨u', r', ?_⟩
        rcases q with ⟨k, e⟩ | ⟨k, c, e, z⟩
        · refine .inl ⟨k, ?_⟩
          have : y ≠ x := fun e => hj (nodup_ix hN e1 (e ▸ hi))
          simp [this, e]
        · exact .inr ⟨k, c, e, z.sameBut hs (cne y c e)⟩
    · obtain ⟨w', z⟩ := I.cell y c e
      exact ⟨w', z.sameBut hs (cne y c e)⟩
    · obtain ⟨e, n, ne, nf, d⟩ := I.pin p hp
      exact ⟨(hs.2 p.1 ne).trans e, n, ne, nf, d⟩
  · have hfn : X.fn x = true := by
      rcases hf with z | z
      · exact z
      · rw [z] at hk; cases hk
    obtain ⟨c, hc⟩ := I.ok.has x (.inl hk)
    obtain ⟨w', z⟩ := I.cell x c hc
    refine wpAny_storeName_cell I.ok.kind hk hc z (fun h' hc' hs => ?_)
    obtain ⟨oc, hoc, hocd⟩ := id z
    refine h { s with heap := h' } ⟨I.ok, I.os, I.bare, ⟨fun b o e n hb hx => ?_, fun b o e n hb hx => ?_, I.base.free, fun b o e hx => ?_, I.base.tups, I.base.frzs, I.base.tbls⟩, ⟨m, hn.sameBut hs (Ne.symm (cne x c hc)), fun j y v' e1 e2 e3 => ?_⟩, fun y c' e => ?_, I.free, I.freeC, fun p hp => ?_, tracked ⟨oc, hoc, I.freeC x c hc⟩ hs, by simpa using I.len⟩ ⟨c, hs, .inr hc⟩
    · exact (hs.2 b (Nat.ne_of_lt (Nat.lt_of_lt_of_le (Heap.lt_size e) (I.ok.cab x c hfn hc)))).trans (I.base.keep b o e n hb hx)
    · obtain ⟨sl, e1⟩ := I.base.slot b o e n hb hx
      exact ⟨sl, (hs.2 b (Nat.ne_of_lt (Nat.lt_of_lt_of_le (Heap.lt_size e) (I.ok.cab x c hfn hc)))).trans e1⟩
    · obtain ⟨o', e1⟩ := I.base.there b o e hx
      exact ⟨o', (hs.2 b (Nat.ne_of_lt (Nat.lt_of_lt_of_le (Heap.lt_size e) (I.ok.cab x c hfn hc)))).trans e1⟩
    · by_cases hj : j = i
      · subst hj
        rw [hi] at e1; cases e1
        rw [List.getElem?_set_self hiσ] at e2
        cases e2
        exact ⟨u, r, .inr ⟨.inl hk, c, hc, hc'⟩⟩
      · rw [List.getElem?_set_ne (Ne.symm hj)] at e2
        obtain ⟨u', r', q⟩ := hl j y v' e1 e2 e3
        refine ⟨u', r', ?_⟩
        rcases q with q | ⟨k, c', e, z'⟩
        · exact .inl q
        · refine .inr ⟨k, c', e, z'.sameBut hs ?_⟩
          rintro rfl
          exact hj (nodup_ix hN e1 (I.ok.inj _ _ _ e hc ▸ hi))
    · by_cases hcc : c' = c
      · subst hcc; exact ⟨_, hc'⟩
      · obtain ⟨w2, z2⟩ := I.cell y c' e
        exact ⟨w2, z2.sameBut hs hcc⟩
    · obtain ⟨e, n, ne, nf, d⟩ := I.pin p hp
      refine ⟨(hs.2 p.1 ?_).trans e, n, ne, nf, d⟩
      intro q
      rw [q, hoc] at e
      have q' : oc = p.2 := Option.some.inj e
      exact d w' (by rw [← q']; exact hocd)
theorem store_ok {M : Model} {A : Around} {E : Value → Shared → Prop} {i : Nat} {x : Str} {v : V} {u : Value} {Q : Unit → Shared → Prop} (I : Inv X pins σ H s) (hN : X.N.Nodup) (hi : X.N[i]? = some x) (hx : Loc X.env.scope x) (r : RelV v u)
    (h : ∀ s', Inv X pins (σ.set i (some v)) H s' → Q () s') (hf : X.fn x = true ∨ X.env.scope.names.lookup x = some .local := by first | exact .inl rfl | exact .inr rfl | assumption) : wpAny M A (storeName X.env x u) Q E s :=
  store_ok2 I hN hi hx r (fun s' I' _ => h s' I') hf
theorem Inv.call' {s' : Shared} {ch : List Addr} (I : Inv X pins σ H s) (ho : s'.os = s.os) (u : Un (frs X.stack) ch H H' s.heap s'.heap) (hok : HOk X.prog X.w H' s'.heap) (hg : AllBare s'.gens)
    (hch : ∀ b ∈ ch, (b ∈ X.ex ∨ X.s₀.heap.objs.size ≤ b) ∧ b ≠ X.env.locals ∧ (∀ x c, X.env.cells.lookup x = some c → c ≠ b) ∧ ∀ p ∈ X.pn ++ pins, p.1 ≠ b) : Inv X pins σ H' s' := by
  obtain ⟨h', g', d', t', o'⟩ := s'
  have e : o' = s.os := ho
  subst e
  exact I.call (g' := g') (t' := t') (d' := d') u hok hg hch
end
abbrev XK := Value → Option Addr → Hp → Prop
abbrev St := List (Option V)
abbrev VK := V → Hp → Prop
abbrev TE := St → Hp → VK → Prop
abbrev TT := St → Hp → (Bool → Hp → Prop) → Prop
abbrev TA := St → Hp → (List V → Hp → Prop) → Prop
structure Ends where
  nx : St → Hp → Prop
  rt : VK
  bk : St → Hp → Prop := fun _ _ => False
  ct : St → Hp → Prop := fun _ _ => False
abbrev TS := Ends → St → Hp → Prop
def EP (X : Cx) (pins : List (Addr × Obj)) (σ : St) (Q : VK) (u : Value) (s' : Shared) : Prop := ∃ v H', Inv X pins σ H' s' ∧ RelV v u ∧ Q v H'
def TP (X : Cx) (pins : List (Addr × Obj)) (σ : St) (Q : Bool → Hp → Prop) (b : Bool) (s' : Shared) : Prop := ∃ H', Inv X pins σ H' s' ∧ Q b H'
def AP (X : Cx) (pins : List (Addr × Obj)) (σ : St) (Q : List V → Hp → Prop) (us : List Value) (s' : Shared) : Prop := ∃ vs H', Inv X pins σ H' s' ∧ Vals vs us ∧ Q vs H'
def SP (X : Cx) (pins : List (Addr × Obj)) (D : Ends) (f : Flow) (s' : Shared) : Prop :=
  match f with
  | .next => ∃ σ' H', Inv X pins σ' H' s' ∧ D.nx σ' H'
  | .brk => ∃ σ' H', Inv X pins σ' H' s' ∧ D.bk σ' H'
  | .cont => ∃ σ' H', Inv X pins σ' H' s' ∧ D.ct σ' H'
  | .ret u => ∃ v σ' H', Inv X pins σ' H' s' ∧ RelV v u ∧ D.rt v H'
def PE (X : Cx) (e : Expr) (t : TE) : Prop :=
  ∀ (pins : List (Addr × Obj)) (s : Shared) (σ : St) (H : Hp) (Q : VK), Inv X pins σ H s → t σ H Q → wpAny (model X.prog X.w) X.A (eval e X.env) (EP X pins σ Q) X.xe s
def PT (X : Cx) (e : Expr) (t : TT) : Prop :=
  ∀ (pins : List (Addr × Obj)) (s : Shared) (σ : St) (H : Hp) (Q : Bool → Hp → Prop), Inv X pins σ H s → t σ H Q → wpAny (model X.prog X.w) X.A (isTrue e X.env (eval e X.env)) (TP X pins σ Q) X.xe s
def PW (X : Cx) (e : Expr) (t : TT) : Prop :=
  ∀ (whole : Sem Value) (pins : List (Addr × Obj)) (s : Shared) (σ : St) (H : Hp) (Q : Bool → Hp → Prop), Inv X pins σ H s → t σ H Q → wpAny (model X.prog X.w) X.A (isTrue e X.env whole) (TP X pins σ Q) X.xe s
theorem PW.pt {X : Cx} {e : Expr} {t : TT} (h : PW X e t) : PT X e t := h _
def PA (X : Cx) (es : List Expr) (t : TA) : Prop :=
  ∀ (pos : Pos) (pins : List (Addr × Obj)) (s : Shared) (σ : St) (H : Hp) (Q : List V → Hp → Prop), Inv X pins σ H s → t σ H Q → wpAny (model X.prog X.w) X.A (spliced (backTo pos (starEach es X.env))) (AP X pins σ Q) X.xe s
def PS (X : Cx) (st : Stmt) (t : TS) : Prop :=
  ∀ (pins : List (Addr × Obj)) (s : Shared) (σ : St) (H : Hp) (D : Ends), Inv X pins σ H s → t D σ H → wpAny (model X.prog X.w) X.A (exec st X.env) (SP X pins D) X.xe s
def PSs (X : Cx) (st : List Stmt) (t : TS) : Prop :=
  ∀ (pins : List (Addr × Obj)) (s : Shared) (σ : St) (H : Hp) (D : Ends), Inv X pins σ H s → t D σ H → wpAny (model X.prog X.w) X.A (execs st X.env) (SP X pins D) X.xe s
theorem thn {α : Type} {t : Sem α} {Q Q' : α → Shared → Prop} {M : Model} {A : Around} {E : Value → Shared → Prop} {s : Shared} (h : wpAny M A t Q E s) (hQ : ∀ a s, Q a s → Q' a s) : wpAny M A t Q' E s := wpAny_mono h hQ fun _ _ x => x
end L2
namespace L2
open PySem PySem.Spec PyProof.Rows
section
variable {X : Cx}
def tVar (i : Nat) : TE := fun σ H Q => ∃ v, σ[i]? = some (some v) ∧ Q v H
def tC (v : V) : TE := fun _ H Q => Q v H
theorem pe_var {i : Nat} {x : Str} {pos : Pos} (hN : X.N[i]? = some x) (hv : Vis X.env.scope x) (hd : (x == ("__debug__" : Str)) = false := by decide) (hcd : (x == ("__classdict__" : Str)) = false := by decide) : PE X (.Name x pos) (tVar i) := by
  intro pins s σ H Q I h
  obtain ⟨v, e, h⟩ := h
  obtain ⟨m, hn, hl⟩ := I.loc
  obtain ⟨u, r, l⟩ := hl i x v hN e hv
  have fin : EP X pins σ Q u s := ⟨v, H, I, r, h⟩
  rcases l with ⟨hk, hm⟩ | ⟨hk, c, hc, hcell⟩
  · exact wpAny_Name (wpAny_loadName_local I.ok.kind hk hn hm fin) hd
  · rcases hk with hk | hk
    · exact wpAny_Name (wpAny_loadName_cell I.ok.kind hk hc hcell fin) hd
    · exact wpAny_Name (wpAny_loadName_free I.ok.kind hk hc hcell fin hcd) hd
theorem pe_int {i j pos} : PE X (.Constant (.int i) j pos) (tC (.int i)) := fun _ _ _ H _ I h => wpAny_Constant_int ⟨.int i, H, I.tok _, ⟨_, rfl⟩, h⟩
theorem pe_bl {b j pos} : PE X (.Constant (.bool b) j pos) (tC (.bl b)) := fun _ _ _ H _ I h => Constant_bool ⟨.bl b, H, I, rfl, h⟩
theorem pe_str {x j pos} : PE X (.Constant (.str x) j pos) (tC (.str x)) := fun _ _ _ H _ I h => Calls.Constant_str ⟨.str x, H, I.tok _, ⟨_, rfl⟩, h⟩
def Gl (X : Cx) (x : Str) : Prop := X.env.kindOf x = some .globalImplicit
theorem ld_glob {E : Value → Shared → Prop} {pins : List (Addr × Obj)} {s : Shared} {σ : St} {H : Hp} {x : Str} {u : Value} {pos : Pos} {Q : Value → Shared → Prop} (I : Inv X pins σ H s) (hg : Gl X x) (hm : X.mg x = some u) (h : Q u s)
    (hd : (x == ("__debug__" : Str)) = false := by decide) : wpAny (model X.prog X.w) X.A (eval (.Name x pos) X.env) Q E s :=
  Calls.Name_function_global I.ok.kind hg (Calls.loadGlobal_global (by rw [I.ok.glob]; exact I.mod.glob.keeps I.bk) hm h) hd
theorem ld_blt {E : Value → Shared → Prop} {pins : List (Addr × Obj)} {s : Shared} {σ : St} {H : Hp} {x : Str} {u : Value} {pos : Pos} {Q : Value → Shared → Prop} (I : Inv X pins σ H s) (hg : Gl X x) (hm : X.mg x = none) (hv : bootBuiltins x = some u) (h : Q u s)
    (hn : x ≠ "__name__" := by decide) (hd : (x == ("__debug__" : Str)) = false := by decide) : wpAny (model X.prog X.w) X.A (eval (.Name x pos) X.env) Q E s := by
  obtain ⟨mb, h1, h2⟩ := I.mod.blt
  exact Calls.Name_function_global I.ok.kind hg (Calls.loadGlobal_builtin (by rw [I.ok.glob]; exact I.mod.glob.keeps I.bk) hm (by rw [I.ok.blt]; exact h1.keeps I.bk) ((h2 x hn).trans hv) h) hd
theorem pe_glob {x : Str} {v : V} {u : Value} {pos : Pos} (hg : Gl X x) (hm : X.mg x = some u) (r : RelV v u) (hd : (x == ("__debug__" : Str)) = false := by decide) : PE X (.Name x pos) (tC v) :=
  fun _ _ _ H _ I h => ld_glob I hg hm ⟨v, H, I, r, h⟩ hd
theorem pe_bltn {x : Str} {v : V} {u : Value} {pos : Pos} (hg : Gl X x) (hm : X.mg x = none) (hv : bootBuiltins x = some u) (r : RelV v u) (hn : x ≠ "__name__" := by decide) (hd : (x == ("__debug__" : Str)) = false := by decide) : PE X (.Name x pos) (tC v) :=
  fun _ _ _ H _ I h => ld_blt I hg hm hv ⟨v, H, I, r, h⟩ hn hd
variable {a b : Expr} {ta tb : TE} {pos : Pos}
def tB (t : TE) : TT := fun σ H Q => t σ H fun x H1 => ∃ c, x = .bl c ∧ Q c H1
theorem pt_val {e : Expr} {t : TE} (h : PE X e t) (he : ∀ whole, isTrue e X.env whole = (do let v ← whole; standAt e.pos; holding [v] (truthy v)) := by intro _; rfl) : PT X e (tB t) := by
  intro pins s σ H Q I hw
  refine isTrue_plain (thn (h pins s σ H _ I hw) fun v s1 ⟨x, H1, I1, r1, q1⟩ => ?_) (he _)
  obtain ⟨d, rfl, q⟩ := q1
  cases r1
  exact wpAny_truthy_bool ⟨H1, I1, q⟩
variable {tA tB' : TT} {rest : List Expr}
def tAnd (t u : TT) : TT := fun σ H Q => t σ H fun c H1 => if c = true then u σ H1 Q else Q false H1
def tOr (t u : TT) : TT := fun σ H Q => t σ H fun c H1 => if c = true then Q true H1 else u σ H1 Q
def tNot (t : TT) : TT := fun σ H Q => t σ H fun c H1 => Q (!c) H1
theorem pw_and1 (ha : PT X a tA) : PW X (.BoolOp .And [a] pos) tA := by
  intro wh pins s σ H Q I h
  refine isTrue_and (thn (ha pins s σ H Q I h) fun c s1 e => ?_)
  cases c with
  | true => exact isTrue_and_nil e
  | false => exact e
theorem pw_or1 (ha : PT X a tA) : PW X (.BoolOp .Or [a] pos) tA := by
  intro wh pins s σ H Q I h
  refine isTrue_or (thn (ha pins s σ H Q I h) fun c s1 e => ?_)
  cases c with
  | false => exact isTrue_or_nil e
  | true => exact e
theorem pw_and (ha : PT X a tA) (hb : PW X (.BoolOp .And (b :: rest) pos) tB') : PW X (.BoolOp .And (a :: b :: rest) pos) (tAnd tA tB') := by
  intro wh pins s σ H Q I h
  refine isTrue_and (thn (ha pins s σ H _ I h) fun c s1 ⟨H1, I1, q1⟩ => ?_)
  cases c with
  | true => exact hb wh pins s1 σ H1 Q I1 q1
  | false => exact ⟨H1, I1, q1⟩
theorem pw_or (ha : PT X a tA) (hb : PW X (.BoolOp .Or (b :: rest) pos) tB') : PW X (.BoolOp .Or (a :: b :: rest) pos) (tOr tA tB') := by
  intro wh pins s σ H Q I h
  refine isTrue_or (thn (ha pins s σ H _ I h) fun c s1 ⟨H1, I1, q1⟩ => ?_)
  cases c with
  | true => exact ⟨H1, I1, q1⟩
  | false => exact hb wh pins s1 σ H1 Q I1 q1
theorem pt_not (ha : PT X a tA) : PT X (.UnaryOp .Not a pos) (tNot tA) := by
  intro pins s σ H Q I h
  exact isTrue_not (ha pins s σ H (fun c H1 => Q (!c) H1) I h)
def tAndV (ta tb : TE) : TE := fun σ H Q => ta σ H fun x H1 => ∃ c, x = .bl c ∧ if c = true then tb σ H1 Q else Q (.bl false) H1
def tOrV (ta tb : TE) : TE := fun σ H Q => ta σ H fun x H1 => ∃ c, x = .bl c ∧ if c = true then Q (.bl true) H1 else tb σ H1 Q
def tNotV (ta : TE) : TE := fun σ H Q => ta σ H fun x H1 => ∃ c, x = .bl c ∧ Q (.bl (!c)) H1
theorem pe_one {op} {t : TE} (h : PE X a t) : PE X (.BoolOp op [a] pos) t := fun pins s σ H Q I hw => BoolOp_one (h pins s σ H Q I hw)
theorem pe_and (ha : PE X a ta) (hb : PE X (.BoolOp .And (b :: rest) pos) tb) : PE X (.BoolOp .And (a :: b :: rest) pos) (tAndV ta tb) := by
  intro pins s σ H Q I h
  refine BoolOp_and (thn (ha pins s σ H _ I h) fun v s1 ⟨x, H1, I1, r1, q1⟩ => ?_)
  obtain ⟨c, rfl, q1⟩ := q1
  cases r1
  refine wpAny_truthy_bool ?_
  cases c with
  | true => exact hb pins s1 σ H1 Q I1 q1
  | false => exact ⟨.bl false, H1, I1, rfl, q1⟩
theorem pe_not (ha : PE X a ta) : PE X (.UnaryOp .Not a pos) (tNotV ta) := by
  intro pins s σ H Q I h
  refine UnaryOp_ (thn (ha pins s σ H _ I h) fun v s1 ⟨x, H1, I1, r1, q1⟩ => ?_)
  obtain ⟨c, rfl, q1⟩ := q1
  cases r1
  exact not_of (wpAny_truthy_bool ⟨.bl (!c), H1, I1, rfl, q1⟩)
def tIf (t : TT) (ta tb : TE) : TE := fun σ H Q => t σ H fun c H1 => if c = true then ta σ H1 Q else tb σ H1 Q
theorem pe_ifExp {c : Expr} (hc : PT X c tA) (ha : PE X a ta) (hb : PE X b tb) : PE X (.IfExp c a b pos) (tIf tA ta tb) := by
  intro pins s σ H Q I h
  refine wpAny_IfExp (thn (hc pins s σ H _ I h) fun d s1 ⟨H1, I1, q1⟩ => ?_)
  cases d with
  | true => exact ha pins s1 σ H1 Q I1 q1
  | false => exact hb pins s1 σ H1 Q I1 q1
end
end L2
namespace L2
open PySem PySem.Spec PyProof.Rows
def SqL (K : PySem.W.Frag) (H : Hp) (a : Addr) (xs : List V) : Prop :=
  Rd H a (.lst xs) ∨
    ∃ (o : Obj) (its : Array Value) (n : Nat), K.lookup a = some o ∧ o.cls = .type "list" ∧ o.dict = none ∧ o.data = .seq its n ∧ its.size ≤ sizeLine ∧ Vals xs its.toList
def SqT (K : PySem.W.Frag) (H : Hp) (a : Addr) (xs : List V) : Prop :=
  Rd H a (.tup xs) ∨
    ∃ (o : Obj) (its : Array Value) (n : Nat), K.lookup a = some o ∧ o.cls = .type "tuple" ∧ o.data = .seq its n ∧ its.size ≤ sizeLine ∧ Vals xs its.toList
def absV : Value → Option V
  | .none => some .non
  | .bool b => some (.bl b)
  | .int i _ => some (.int i)
  | .str x _ => some (.str x)
  | .bytes b _ => some (.byt b)
  | .float b _ => some (.flt b)
  | .ref a => some (.ref a)
  | .type n => some (.ty n)
  | _ => none
theorem RelV.abs {x : V} {u : Value} (r : RelV x u) : absV u = some x := by
  cases x with
  | non => cases r; rfl
  | bl _ => cases r; rfl
  | int _ => obtain ⟨t, rfl⟩ := r; rfl
  | str _ => obtain ⟨t, rfl⟩ := r; rfl
  | byt _ => obtain ⟨t, rfl⟩ := r; rfl
  | flt _ => obtain ⟨t, rfl⟩ := r; rfl
  | ref _ => cases r; rfl
  | ty _ => cases r; rfl
theorem RelV.inj {x y : V} {u : Value} (r : RelV x u) (q : RelV y u) : x = y := Option.some.inj (r.abs.symm.trans q.abs)
theorem Vals.inj : ∀ {xs ys : List V} {us : List Value}, Vals xs us → Vals ys us → xs = ys
  | _, _, _, .nil, .nil => rfl
  | _, _, _, .cons r t, .cons r' t' => by rw [r.inj r', Vals.inj t t']
section
variable {X : Cx} {pins : List (Addr × Obj)} {σ : St} {H : Hp} {s : Shared} {a : Addr} {xs ys : List V}
theorem SqL.of {K : PySem.W.Frag} (h : H a = some (.lst xs)) : SqL K H a xs := .inl (.inl h)
theorem SqT.of {K : PySem.W.Frag} (h : H a = some (.tup xs)) : SqT K H a xs := .inl (.inl h)
theorem Inv.list (I : Inv X pins σ H s) (h : SqL X.K H a xs) : ∃ its : List Value, Vals xs its ∧ PlainL s.heap a its.toArray ∧ xs.length ≤ sizeLine := by
  rcases h with h | ⟨o, its, n, hk, hc, hd, hs, hz, r⟩
  · obtain ⟨z, its, n, r, e⟩ := h.ok I.hok
    exact ⟨its, r, ⟨_, n, e, rfl, rfl, rfl⟩, z⟩
  · refine ⟨its.toList, r, ⟨o, n, I.kIn a o hk, hc, hd, by simpa using hs⟩, ?_⟩
    have e := r.length
    simp only [Array.length_toList] at e
    omega
theorem Inv.tuple (I : Inv X pins σ H s) (h : SqT X.K H a xs) : ∃ its : List Value, Vals xs its ∧ IsTup s.heap a its.toArray ∧ xs.length ≤ sizeLine := by
  rcases h with h | ⟨o, its, n, hk, hc, hs, hz, r⟩
  · obtain ⟨z, its, r, p⟩ := h.ok I.hok
    exact ⟨its, r, p, z⟩
  · refine ⟨its.toList, r, ⟨o, I.kIn a o hk, hc, n, by simpa using hs⟩, ?_⟩
    have e := r.length
    simp only [Array.length_toList] at e
    omega
theorem Inv.list_inj (I : Inv X pins σ H s) (h : SqL X.K H a xs) (h' : SqL X.K H a ys) : xs = ys := by
  obtain ⟨its, r, ⟨o, n, e, _, _, d⟩, _⟩ := I.list h
  obtain ⟨its', r', ⟨o', n', e', _, _, d'⟩, _⟩ := I.list h'
  rw [e] at e'; cases e'
  rw [d] at d'
  injection d' with d1 _
  have : its = its' := by simpa using congrArg Array.toList d1
  subst this
  exact r.inj r'
theorem Inv.tuple_inj (I : Inv X pins σ H s) (h : SqT X.K H a xs) (h' : SqT X.K H a ys) : xs = ys := by
  obtain ⟨its, r, ⟨o, e, _, n, d⟩, _⟩ := I.tuple h
  obtain ⟨its', r', ⟨o', e', _, n', d'⟩, _⟩ := I.tuple h'
  rw [e] at e'; cases e'
  rw [d] at d'
  injection d' with d1 _
  have : its = its' := by simpa using congrArg Array.toList d1
  subst this
  exact r.inj r'
end
abbrev Cx.wish (X : Cx) (E : Value → Shared → Prop) : Cx := { X with xe := E }
abbrev Cx.nox (X : Cx) : Cx := X.wish fun _ _ => False
theorem Cx.Ok.wish {X : Cx} (ok : X.Ok) (E : Value → Shared → Prop) : (X.wish E).Ok :=
  ⟨ok.mod, ok.kind, ok.glob, ok.blt, ok.above, ok.inj, ok.has, ok.cab, ok.hd, ok.frames, ok.stk, ok.exf, ok.bs, ok.bsz, ok.noex, ok.exfs, ok.funs, ok.frf⟩
theorem Cx.Ok.unwish {X : Cx} {E : Value → Shared → Prop} (ok : (X.wish E).Ok) : X.Ok :=
  ⟨ok.mod, ok.kind, ok.glob, ok.blt, ok.above, ok.inj, ok.has, ok.cab, ok.hd, ok.frames, ok.stk, ok.exf, ok.bs, ok.bsz, ok.noex, ok.exfs, ok.funs, ok.frf⟩
section
variable {X : Cx} {pins : List (Addr × Obj)} {σ : St} {H : Hp} {s : Shared} {E : Value → Shared → Prop}
theorem Inv.wish (I : Inv X pins σ H s) (E : Value → Shared → Prop) : Inv (X.wish E) pins σ H s := ⟨I.ok.wish E, I.os, I.bare, I.base, I.loc, I.cell, I.free, I.freeC, I.pin, I.hok, I.len⟩
theorem Inv.unwish (I : Inv (X.wish E) pins σ H s) : Inv X pins σ H s := ⟨I.ok.unwish, I.os, I.bare, I.base, I.loc, I.cell, I.free, I.freeC, I.pin, I.hok, I.len⟩
theorem SP.unwish {D : Ends} {f : Flow} {s' : Shared} (h : SP (X.wish E) pins D f s') : SP X pins D f s' := by
  cases f with
  | next => obtain ⟨σ', H', I, q⟩ := h; exact ⟨σ', H', I.unwish, q⟩
  | brk => obtain ⟨σ', H', I, q⟩ := h; exact ⟨σ', H', I.unwish, q⟩
  | cont => obtain ⟨σ', H', I, q⟩ := h; exact ⟨σ', H', I.unwish, q⟩
  | ret u => obtain ⟨v, σ', H', I, r, q⟩ := h; exact ⟨v, σ', H', I.unwish, r, q⟩
theorem PE.nox {e : Expr} {t : TE} (h : PE X.nox e t) : PE X e t := fun pins s σ H Q I hw =>
  wpAny_mono (h pins s σ H Q (I.wish _) hw) (fun _ _ ⟨v, H', I', r, q⟩ => ⟨v, H', I'.unwish, r, q⟩) fun _ _ z => False.elim z
theorem PT.nox {e : Expr} {t : TT} (h : PT X.nox e t) : PT X e t := fun pins s σ H Q I hw =>
  wpAny_mono (h pins s σ H Q (I.wish _) hw) (fun _ _ ⟨H', I', q⟩ => ⟨H', I'.unwish, q⟩) fun _ _ z => False.elim z
theorem PSs.nox {st : List Stmt} {t : TS} (h : PSs X.nox st t) : PSs X st t := fun pins s σ H D I hw =>
  wpAny_mono (h pins s σ H D (I.wish _) hw) (fun _ _ q => q.unwish) fun _ _ z => False.elim z
end
section
variable {X : Cx} {st : Stmt} {rest : List Stmt} {t u : TS} {e : Expr} {te : TE} {pos : Pos}
def tNext : TS := fun D σ H => D.nx σ H
def tSeq (t u : TS) : TS := fun D σ H => t { D with nx := u D } σ H
theorem pss_nil : PSs X [] tNext := fun _ _ σ H _ I h => wpAny_execs_nil ⟨σ, H, I, h⟩
theorem pss_cons (h1 : PS X st t) (h2 : PSs X rest u) : PSs X (st :: rest) (tSeq t u) := by
  intro pins s σ H D I h
  refine wpAny_execs_cons (thn (h1 pins s σ H { D with nx := u D } I h) fun f s1 q => ?_)
  cases f with
  | next =>
    obtain ⟨σ', H', I', q⟩ := q
    exact h2 pins s1 σ' H' D I' q
  | ret v => exact q
  | brk => exact q
  | cont => exact q
theorem pss_one (h1 : PS X st t) : PSs X [st] t := by
  intro pins s σ H D I h
  refine wpAny_execs_cons (thn (h1 pins s σ H D I h) fun f s1 q => ?_)
  cases f with
  | next => exact wpAny_execs_nil q
  | ret v => exact q
  | brk => exact q
  | cont => exact q
def tBreak : TS := fun D σ H => D.bk σ H
def tCont : TS := fun D σ H => D.ct σ H
theorem Inv.quiet {pins : List (Addr × Obj)} {σ : St} {H : Hp} {s : Shared} (I : Inv X pins σ H s) : interactive X.env = false := by simp [interactive, I.ok.kind]
def tDrop (te : TE) : TS := fun D σ H => te σ H fun _ H1 => D.nx σ H1
theorem ps_expr (he : PE X e te) (hs : swapsWith e none pos.line X.env = pure false := by rfl) : PS X (.Expr e pos) (tDrop te) := by
  intro pins s σ H D I h
  exact wpAny_Expr_any (thn (he pins s σ H _ I h) fun v s1 ⟨x, H1, I1, r1, q1⟩ => ⟨σ, H1, I1, q1⟩) I.quiet hs
def tRet (te : TE) : TS := fun D σ H => te σ H D.rt
theorem ps_ret (he : PE X e te) : PS X (.Return (some e) pos) (tRet te) := by
  intro pins s σ H D I h
  exact wpAny_Return_some (thn (he pins s σ H _ I h) fun v s1 ⟨x, H1, I1, r1, q1⟩ => ⟨x, σ, H1, I1, r1, q1⟩)
def tRetN : TS := fun D _ H => D.rt .non H
def tIfS (c : TT) (t u : TS) : TS := fun D σ H => c σ H fun b H1 => if b = true then t D σ H1 else u D σ H1
theorem ps_if {c : Expr} {a b : List Stmt} {tc : TT} (hc : PT X c tc) (ha : PSs X a t) (hb : PSs X b u) : PS X (.If c a b pos) (tIfS tc t u) := by
  intro pins s σ H D I h
  refine wpAny_If (thn (hc pins s σ H _ I h) fun d s1 ⟨H1, I1, q1⟩ => ?_)
  cases d with
  | true => exact ha pins s1 σ H1 D I1 q1
  | false => exact hb pins s1 σ H1 D I1 q1
def tNever : TS := fun _ _ _ => False
end
abbrev TG := V → St → Hp → (St → Hp → Prop) → Prop
abbrev TGs := List V → St → Hp → (St → Hp → Prop) → Prop
def PG (X : Cx) (target : Expr) (t : TG) : Prop :=
  ∀ (pins : List (Addr × Obj)) (s : Shared) (σ : St) (H : Hp) (v : V) (u : Value) (Q : St → Hp → Prop), Inv X pins σ H s → RelV v u → t v σ H Q →
    wpAny (model X.prog X.w) X.A (assign target X.env u) (fun _ s' => ∃ σ' H', Inv X pins σ' H' s' ∧ Q σ' H') X.xe s
def PGs (X : Cx) (ts : List Expr) (t : TGs) : Prop :=
  ∀ (pins : List (Addr × Obj)) (s : Shared) (σ : St) (H : Hp) (vs : List V) (us : List Value) (Q : St → Hp → Prop), Inv X pins σ H s → Vals vs us → t vs σ H Q →
    wpAny (model X.prog X.w) X.A (assignInOrder ((assignEach ts X.env).map (·.2)) us) (fun _ s' => ∃ σ' H', Inv X pins σ' H' s' ∧ Q σ' H') X.xe s
abbrev TSet := V → V → V → Hp → (Hp → Prop) → Prop
def PSet (X : Cx) (t : TSet) : Prop :=
  ∀ (pins : List (Addr × Obj)) (s : Shared) (σ : St) (H : Hp) (o i v : V) (ov iv u : Value) (Q : Hp → Prop), Inv X pins σ H s → RelV o ov → RelV i iv → RelV v u → t o i v H Q →
    wpAny (model X.prog X.w) X.A (setItem ov iv u) (fun _ s' => ∃ H', Inv X pins σ H' s' ∧ Q H') X.xe s
section
variable {X : Cx} {pos : Pos}
def gName (i : Nat) : TG := fun v σ H Q => Q (σ.set i (some v)) H
theorem pg_name {i : Nat} {x : Str} (hN : X.N.Nodup) (hi : X.N[i]? = some x) (hx : Loc X.env.scope x) (hf : X.fn x = true ∨ X.env.scope.names.lookup x = some .local := by first | exact .inl rfl | exact .inr rfl | assumption) : PG X (.Name x pos) (gName i) := by
  intro pins s σ H v u Q I r h
  exact wpAny_assign_Name (store_ok I hN hi hx r (fun s' I' => ⟨_, H, I', h⟩) hf)
def gNil : TGs := fun vs σ H Q => vs = [] ∧ Q σ H
def gCons (t : TG) (u : TGs) : TGs := fun vs σ H Q => ∃ v r, vs = v :: r ∧ t v σ H fun σ' H' => u r σ' H' Q
theorem pgs_nil : PGs X [] gNil := by
  intro pins s σ H vs us Q I r h
  obtain ⟨e, h⟩ := h
  subst e
  cases r
  exact assignInOrder_nil ⟨σ, H, I, h⟩
theorem pgs_cons {e : Expr} {es : List Expr} {t : TG} {u : TGs} (h1 : PG X e t) (h2 : PGs X es u)
    (hs : (assignEach (e :: es) X.env).map (·.2) = assign e X.env :: (assignEach es X.env).map (·.2) := by rfl) : PGs X (e :: es) (gCons t u) := by
  intro pins s σ H vs us Q I r h
  obtain ⟨v, vr, e1, h⟩ := h
  subst e1
  cases r with
  | cons r rr =>
    rw [hs]
    refine assignInOrder_cons (thn (h1 pins s σ H _ _ _ I r h) fun _ s1 ⟨σ1, H1, I1, q1⟩ => ?_)
    exact h2 pins s1 σ1 H1 _ _ Q I1 rr q1
def gTup (K : PySem.W.Frag) (n : Nat) (t : TGs) : TG := fun v σ H Q => ∃ a xs, v = .ref a ∧ SqT K H a xs ∧ xs.length = n ∧ t xs σ H Q
theorem pg_tup {es : List Expr} {k : Nat} {t : TGs} {n : Nat} (hc : X.calm = true) (h : PGs X es t)
    (hn : (assignEach es X.env).length = n := by rfl) (hst : (assignEach es X.env).findIdx? (·.1) = none := by rfl) : PG X (.Tuple es k pos) (gTup X.K n t) := by
  intro pins s σ H v u Q I r hw
  obtain ⟨a, xs, e1, hq, hl, hw⟩ := hw
  subst e1
  cases r
  obtain ⟨its, rv, ht, hz⟩ := I.tuple hq
  refine assign_Tuple_tuple (I.ok.hd hc) ht (by simp [hn, ← hl, rv.length]) hst fun h' hx => ?_
  have I1 : Inv X pins σ H { s with heap := h' } := I.kept (t' := s.toks) fun b o e => hx b o (Nat.ne_of_lt (Heap.lt_size e)) e
  exact h pins _ σ H xs _ Q I1 (by simpa using rv) hw
def gSub (to ti : TE) (t : TSet) : TG := fun v σ H Q => to σ H fun o H1 => ti σ H1 fun i H2 => t o i v H2 fun H3 => Q σ H3
theorem pg_sub {o i : Expr} {to ti : TE} {t : TSet} (ho : PE X o to) (hi : PE X i ti) (hs : PSet X t)
    (ha : ∀ v, assign (.Subscript o i pos) X.env v = (do
      let ov ← holding [v] (eval o X.env)
      let iv ← holding [v, ov] (eval i X.env)
      standAt pos
      holding [v, ov, iv] (setItem ov iv v)
      release [v, ov, iv] []) := by intro _; rfl) : PG X (.Subscript o i pos) (gSub to ti t) := by
  intro pins s σ H v u Q I r h
  rw [ha]
  refine wpAny_bind (wpAny_holding (thn (ho pins s σ H _ I h) fun ov s1 ⟨x, H1, I1, r1, q1⟩ => ?_))
  refine wpAny_bind (wpAny_holding (thn (hi pins s1 σ H1 _ I1 q1) fun iv s2 ⟨y, H2, I2, r2, q2⟩ => ?_))
  refine wpAny_bind (wpAny_standAt (wpAny_bind (wpAny_holding (thn (hs pins s2 σ H2 x y v ov iv u _ I2 r1 r2 r q2) fun _ s3 ⟨H3, I3, q3⟩ => ?_))))
  exact wpAny_release ⟨σ, H3, I3, q3⟩
def tAsg (te : TE) (g : TG) : TS := fun D σ H => te σ H fun x H1 => g x σ H1 D.nx
theorem ps_asg {tg e : Expr} {te : TE} {g : TG} (he : PE X e te) (hg : PG X tg g) (hs : swapsWithSole [tg] e pos.line X.env = pure false := by rfl) (hw : swappedStores [tg] e X.env = pure none := by rfl)
    (h1 : (assignEach [tg] X.env).map (·.2) = [assign tg X.env] := by rfl) : PS X (.Assign [tg] e pos) (tAsg te g) := by
  intro pins s σ H D I h
  refine wpAny_Assign_stores (thn (he pins s σ H _ I h) fun v s1 ⟨x, H1, I1, r1, q1⟩ => ?_) hs hw
  rw [h1]
  exact thn (hg pins s1 σ H1 x v _ I1 r1 q1) fun _ s2 q => q
theorem ps_set {i : Nat} {x : Str} {e : Expr} {te : TE} {pos' : Pos} (hN : X.N.Nodup) (hi : X.N[i]? = some x) (hx : Loc X.env.scope x) (he : PE X e te) (hs : swapsWith e (some (.Name x pos')) pos.line X.env = pure false := by rfl) (hf : X.fn x = true ∨ X.env.scope.names.lookup x = some .local := by first | exact .inl rfl | exact .inr rfl | assumption) :
    PS X (.Assign [.Name x pos'] e pos) (tAsg te (gName i)) := by
  intro pins s σ H D I h
  refine wpAny_Assign_Name (thn (he pins s σ H _ I h) fun v s1 ⟨y, H1, I1, r1, q1⟩ => ?_) hs
  exact store_ok I1 hN hi hx r1 (fun s2 I2 => ⟨_, H1, I2, q1⟩) hf
def tPar (i j : Nat) (ta : TA) : TS := fun D σ H => ta σ H fun vs H1 => ∃ v w, vs = [v, w] ∧ D.nx ((σ.set i (some v)).set j (some w)) H1
theorem ps_par {i j : Nat} {x y : Str} {a b : Expr} {ta : TA} {px py pt : Pos} {kt k2 pt2} (hc : X.calm = true) (hN : X.N.Nodup) (hi : X.N[i]? = some x) (hj : X.N[j]? = some y) (hij : i ≠ j)
    (hx : X.env.scope.names.lookup x = some .local) (hy : X.env.scope.names.lookup y = some .local) (ha : PA X [a, b] ta)
    (hw : swappedStores [.Tuple [.Name x px, .Name y py] kt pt] (.Tuple [a, b] k2 pt2) X.env = pure (some [x, y]))
    (hs : swapsWithSole [.Tuple [.Name x px, .Name y py] kt pt] (.Tuple [a, b] k2 pt2) pos.line X.env = pure false := by rfl) :
    PS X (.Assign [.Tuple [.Name x px, .Name y py] kt pt] (.Tuple [a, b] k2 pt2) pos) (tPar i j ta) := by
  intro pins s σ H D I h
  rw [exec_Assign_arm]
  refine wpAny_bind (wpAny_standAt ?_)
  rw [hs]
  refine wpAny_bind (wpAny_pure ?_)
  rw [if_neg (by decide)]
  refine wpAny_bind (Tuple_ (thn (ha _ pins s σ H _ I h) fun us s1 ⟨vs, H1, I1, r1, q1⟩ => ?_))
  obtain ⟨v, w, e1, q1⟩ := q1
  subst e1
  obtain ⟨u1, u2, rfl, rv, rw'⟩ : ∃ u1 u2, us = [u1, u2] ∧ RelV v u1 ∧ RelV w u2 := by
    cases r1 with
    | cons p q =>
      cases q with
      | cons p' q' =>
        cases q'
        exact ⟨_, _, rfl, p, p'⟩
  refine wpAny_newObj_type ?_ (by show 2 ≤ sizeLine; decide)
  have I2 : Inv X pins σ H1 { s1 with heap := s1.heap.push { cls := .type "tuple", data := .seq [u1, u2].toArray } } := I1.kept (t' := s1.toks) fun b o e => Heap.get?_push_of_some _ e
  rw [hw]
  refine wpAny_bind (wpAny_pure ?_)
  show wpAny (model X.prog X.w) X.A (do rule "assign.swapped-stores"; let items ← unpackItems (.ref s1.heap.objs.size) 2 none; assignInOrder [fun v => bindName X.env y v, fun v => bindName X.env x v] items.reverse; pure Flow.next) _ _ _
  refine wpAny_bind (wpAny_rule (wpAny_bind (unpackItems_tuple (items := #[u1, u2]) (I.ok.hd hc) (IsTup.new s1.heap _) fun h' hx' => ?_)))
  have I3 := I2.kept (h' := h') (t' := s1.toks) fun b o e => hx' b o (Nat.ne_of_lt (Heap.lt_size e)) e
  show wpAny _ _ (assignInOrder [fun v => bindName X.env y v, fun v => bindName X.env x v] [u2, u1] >>= fun _ => pure Flow.next) _ _ _
  refine wpAny_bind (assignInOrder_cons (wpAny_bindName (store_ok I3 hN hj (.inl hy) rw' (fun s2 I4 => ?_) (.inr hy))))
  refine assignInOrder_cons (wpAny_bindName (store_ok I4 hN hi (.inl hx) rv (fun s3 I5 => assignInOrder_nil (wpAny_pure ?_)) (.inr hx)))
  rw [List.set_comm _ _ (Ne.symm hij)] at I5
  exact ⟨_, H1, I5, q1⟩
end
section
variable {X : Cx} {pos : Pos}
def tWhile (c : TT) (tb : TS) : TS := fun D σ H => ∃ W : Nat → St → Hp → Prop, (∃ m, W m σ H) ∧ ∀ m σ H, W m σ H →
  c σ H fun b H1 => if b = true then ∃ N : St → Hp → Prop, (∀ σ' H', N σ' H' → ∃ m', m' < m ∧ W m' σ' H') ∧ tb { D with nx := N, ct := N, bk := D.nx } σ H1 else D.nx σ H1
theorem ps_while {c : Expr} {body : List Stmt} {tc : TT} {tb : TS} (hp : PassesOwn (model X.prog X.w) X.A X.env X.xe) (hc : PT X c tc) (hb : PSs X body tb) : PS X (.While c body [] pos) (tWhile tc tb) := by
  intro pins s σ H D I h
  obtain ⟨W, ⟨m0, w0⟩, turn⟩ := h
  refine wpAny_While (codeAny_whileLoop (fun n s' => ∃ σ' H', Inv X pins σ' H' s' ∧ W n σ' H') ?_ m0 ⟨σ, H, I, w0⟩)
  rintro n s1 ⟨σ1, H1, I1, w1⟩
  refine wpAny_passesOwn hp (thn (hc pins s1 σ1 H1 _ I1 (turn n σ1 H1 w1)) fun b s2 ⟨H2, I2, q2⟩ => ?_)
  cases b with
  | true =>
    obtain ⟨N, hN, q2⟩ := q2
    rw [if_pos rfl]
    refine wpAny_passesOwn hp (thn (hb pins s2 σ1 H2 _ I2 q2) fun f s3 q3 => ?_)
    cases f with
    | next =>
      obtain ⟨σ3, H3, I3, n3⟩ := q3
      obtain ⟨m', hm, w3⟩ := hN σ3 H3 n3
      exact ⟨m', hm, σ3, H3, I3, w3⟩
    | cont =>
      obtain ⟨σ3, H3, I3, n3⟩ := q3
      obtain ⟨m', hm, w3⟩ := hN σ3 H3 n3
      exact ⟨m', hm, σ3, H3, I3, w3⟩
    | brk => exact q3
    | ret v => exact q3
  | false =>
    rw [if_neg Bool.false_ne_true]
    exact wpAny_execs_nil ⟨σ1, H2, I2, q2⟩
end
structure It where
  go : Nat → Hp → Prop
  yld : Nat → Hp → V → Hp → Prop
  stop : Nat → Hp → Prop
def FpOk (X : Cx) (pins : List (Addr × Obj)) (H : Hp) (b : Addr) : Prop :=
  H b = none ∧ b ≠ X.env.locals ∧ b ∉ X.fs ∧ (b ∈ X.ex ∨ X.s₀.heap.objs.size ≤ b) ∧ (∀ x c, X.env.cells.lookup x = some c → c ≠ b) ∧ ∀ p ∈ X.pn ++ pins, p.1 ≠ b
theorem Inv.fpOk {X : Cx} {pins : List (Addr × Obj)} {σ : St} {H H' : Hp} {s : Shared} {b : Addr} (I : Inv X pins σ H s) (hb : s.heap.objs.size ≤ b) (hn : H' b = none) : FpOk X pins H' b := by
  refine ⟨hn, Nat.ne_of_gt (Nat.lt_of_lt_of_le I.lt hb), I.nofs hb, .inr (Nat.le_trans I.sz hb), fun x c e z => ?_, fun p hp z => ?_⟩
  · obtain ⟨v, q⟩ := I.cell x c e
    exact absurd (Nat.lt_of_lt_of_le q.lt (by rw [z]; exact hb)) (Nat.lt_irrefl _)
  · exact absurd (Nat.lt_of_lt_of_le (Heap.lt_size (I.pin p hp).1) (by rw [z]; exact hb)) (Nat.lt_irrefl _)
structure Turn (P : Program) (w : World) (K : PySem.W.Frag) (tg : Expr) (J : It) (fp : List Addr) (it : Addr) (tn : Nat → Heap → Prop) : Prop where
  mem : it ∈ fp
  obj : ∀ i h, tn i h → ∀ b ∈ fp, ∃ o, h.get? b = some o ∧ ∀ v, o.data ≠ .cell v
  keep : ∀ i h h', tn i h → (∀ b ∈ fp, ∀ o, h.get? b = some o → h'.get? b = some o) → tn i h'
  item : ∀ (X : Cx), X.prog = P → X.w = w → X.K = K → X.calm = true → ∀ (i : Nat) (pins : List (Addr × Obj)) (s : Shared) (σ : St) (H : Hp) (E : Value → Shared → Prop), Inv X pins σ H s → (∀ b ∈ fp, FpOk X pins H b) → tn i s.heap → J.go i H →
    wpAny (model P w) X.A (pyNext (.ref it)) (fun r s1 => ∃ u, r = some u ∧
      wpAny (model P w) X.A (letOwnedTupleGo tg (.ref it) u) (fun _ s2 => ∃ x H', Inv X pins σ H' s2 ∧ RelV x u ∧ J.yld i H x H' ∧ tn (i + 1) s2.heap ∧ ∀ b ∈ fp, H' b = none) E s1) E s
  done : ∀ (X : Cx), X.prog = P → X.w = w → X.K = K → X.calm = true → ∀ (i : Nat) (pins : List (Addr × Obj)) (s : Shared) (σ : St) (H : Hp) (E : Value → Shared → Prop), Inv X pins σ H s → (∀ b ∈ fp, FpOk X pins H b) → tn i s.heap → J.stop i H →
    wpAny (model P w) X.A (pyNext (.ref it)) (fun r s1 => r = none ∧ Inv X pins σ H s1) E s
  self : ∀ (A : Around) (i : Nat) (s : Shared) (Q : Value → Shared → Prop) (E : Value → Shared → Prop), tn i s.heap → Q (.ref it) s → wpAny (model P w) A (pyIter (.ref it)) Q E s
abbrev TI := St → Hp → (It → Hp → Prop) → Prop
def PIE (X : Cx) (pins : List (Addr × Obj)) (σ : St) (tg : Expr) (R : It → Hp → Prop) (itv : Value) (s2 : Shared) : Prop :=
  ∃ (it : Addr) (fp : List Addr) (tn : Nat → Heap → Prop) (J : It) (H' : Hp), itv = .ref it ∧ Inv X pins σ H' s2 ∧ Turn X.prog X.w X.K tg J fp it tn ∧ tn 0 s2.heap ∧ (∀ b ∈ fp, FpOk X pins H' b) ∧ R J H'
def PI (X : Cx) (tg iter : Expr) (wi : TI) : Prop :=
  ∀ (pins : List (Addr × Obj)) (s : Shared) (σ : St) (H : Hp) (R : It → Hp → Prop), Inv X pins σ H s → wi σ H R →
    wpAny (model X.prog X.w) X.A (eval iter X.env) (fun v s1 => wpAny (model X.prog X.w) X.A (pyIter v) (PIE X pins σ tg R) X.xe s1) X.xe s
theorem go_of {M : Model} {A : Around} {E : Value → Shared → Prop} {s : Shared} {tg : Expr} {it : Addr} {u : Value} {o : Obj} {n : String} {vs : Array Value} {Q : Unit → Shared → Prop} (ho : s.heap.get? it = some o) (hc : o.cls = .type n) (hd : o.data = .fields vs)
    (hn : ["enumerate", "zip", "dict_itemiterator", "dict_reverseitemiterator", "odict_iterator", "itertools.zip_longest", "itertools.pairwise"].contains n = false) (hQ : Q () s) : wpAny M A (letOwnedTupleGo tg (.ref it) u) Q E s := by
  unfold letOwnedTupleGo
  cases tg <;> first
    | exact wpAny_pure hQ
    | (cases u <;> first
        | exact wpAny_pure hQ
        | (refine wpAny_bind (wpAny_load ho ?_)
           rw [hc, hd]
           show wpAny M A (if (["enumerate", "zip", "dict_itemiterator", "dict_reverseitemiterator", "odict_iterator", "itertools.zip_longest", "itertools.pairwise"].contains n && vs[0]? == some (rawInt _)) = true then _ else _) Q E s
           rw [if_neg (by intro h; rw [hn, Bool.false_and] at h; cases h)]
           exact wpAny_pure hQ))
def Itl (K : PySem.W.Frag) (a : Addr) : It :=
  ⟨fun i H => ∃ xs x, SqL K H a xs ∧ xs[i]? = some x, fun i H x H' => H' = H ∧ ∀ xs, SqL K H a xs → xs[i]? = some x, fun i H => ∃ xs, SqL K H a xs ∧ xs.length ≤ i⟩
def Itt (K : PySem.W.Frag) (a : Addr) : It :=
  ⟨fun i H => ∃ xs x, SqT K H a xs ∧ xs[i]? = some x, fun i H x H' => H' = H ∧ ∀ xs, SqT K H a xs → xs[i]? = some x, fun i H => ∃ xs, SqT K H a xs ∧ xs.length ≤ i⟩
def Itr (lo : Int) (n : Nat) : It := ⟨fun i _ => i < n, fun i H x H' => H' = H ∧ x = .int (lo + i), fun i _ => n ≤ i⟩
theorem turn_list {P : Program} {w : World} {K : PySem.W.Frag} {tg : Expr} (a it : Addr) : Turn P w K tg (Itl K a) [it] it (fun i h => h.IsListIter it a i) where
  mem := by simp
  obj := fun i h st b hb => by
    have e : b = it := by simpa using hb
    subst e
    obtain ⟨o, e, c, d⟩ := st
    exact ⟨o, e, fun v z => by rw [d] at z; cases z⟩
  keep := fun i h h' st k => st.at fun o e => k it (by simp) o e
  item := by
    intro X hP hw hK hc i pins s σ H E I hf st hg
    subst hP hw hK
    obtain ⟨xs, x, hq, hx⟩ := hg
    obtain ⟨its, rv, p, hz⟩ := I.list hq
    obtain ⟨u, hu, ru⟩ := rv.get hx
    obtain ⟨f0, f1, f2, f3, f4, f5⟩ := hf it (by simp)
    refine wpAny_pyNext_list_item st p.isList (x := u) (by simpa using hu) fun h' st' sb => ?_
    have I1 : Inv X pins σ H { s with heap := h' } := I.turned (t' := s.toks) (fun b o hb e => (sb.2 b hb).trans e) f0 f1 f3 f4 f5
    obtain ⟨o, e, c, d⟩ := id st'
    exact ⟨u, rfl, go_of (s := { s with heap := h' }) e c d (by decide) ⟨x, H, I1, ru, ⟨rfl, fun ys hy => by rw [I.list_inj hy hq]; exact hx⟩, st', fun b hb => (hf b hb).1⟩⟩
  done := by
    intro X hP hw hK hc i pins s σ H E I hf st hg
    subst hP hw hK
    obtain ⟨xs, hq, hx⟩ := hg
    obtain ⟨its, rv, p, hz⟩ := I.list hq
    obtain ⟨f0, f1, f2, f3, f4, f5⟩ := hf it (by simp)
    have hl := rv.length
    exact wpAny_pyNext_list_end (I.ok.hd hc) st p.isList (by simp; omega) fun h' eb => ⟨rfl, I.turned (t' := s.toks) (fun b o hb e => eb b o hb e) f0 f1 f3 f4 f5⟩
  self := fun _ _ _ _ _ st h => wpAny_pyIter_listiter st h
theorem turn_tuple {P : Program} {w : World} {K : PySem.W.Frag} {tg : Expr} (a it : Addr) : Turn P w K tg (Itt K a) [it] it (fun i h => h.IsTupleIter it a i) where
  mem := by simp
  obj := fun i h st b hb => by
    have e : b = it := by simpa using hb
    subst e
    obtain ⟨o, e, c, d⟩ := st
    exact ⟨o, e, fun v z => by rw [d] at z; cases z⟩
  keep := fun i h h' st k => st.at fun o e => k it (by simp) o e
  item := by
    intro X hP hw hK hc i pins s σ H E I hf st hg
    subst hP hw hK
    obtain ⟨xs, x, hq, hx⟩ := hg
    obtain ⟨its, rv, p, hz⟩ := I.tuple hq
    obtain ⟨u, hu, ru⟩ := rv.get hx
    obtain ⟨f0, f1, f2, f3, f4, f5⟩ := hf it (by simp)
    refine wpAny_pyNext_tuple_item st (show s.heap.IsTuple a its.toArray from p) (x := u) (by simpa using hu) fun h' st' sb => ?_
    have I1 : Inv X pins σ H { s with heap := h' } := I.turned (t' := s.toks) (fun b o hb e => (sb.2 b hb).trans e) f0 f1 f3 f4 f5
    obtain ⟨o, e, c, d⟩ := id st'
    exact ⟨u, rfl, go_of (s := { s with heap := h' }) e c d (by decide) ⟨x, H, I1, ru, ⟨rfl, fun ys hy => by rw [I.tuple_inj hy hq]; exact hx⟩, st', fun b hb => (hf b hb).1⟩⟩
  done := by
    intro X hP hw hK hc i pins s σ H E I hf st hg
    subst hP hw hK
    obtain ⟨xs, hq, hx⟩ := hg
    obtain ⟨its, rv, p, hz⟩ := I.tuple hq
    obtain ⟨f0, f1, f2, f3, f4, f5⟩ := hf it (by simp)
    have hl := rv.length
    exact wpAny_pyNext_tuple_end (I.ok.hd hc) st (show s.heap.IsTuple a its.toArray from p) (by simp; omega) fun h' eb => ⟨rfl, I.turned (t' := s.toks) (fun b o hb e => eb b o hb e) f0 f1 f3 f4 f5⟩
  self := fun _ _ _ _ _ st h => wpAny_pyIter_tupleiter st h
theorem turn_range {P : Program} {w : World} {K : PySem.W.Frag} {tg : Expr} (it : Addr) (lo : Int) (n : Nat) : Turn P w K tg (Itr lo n) [it] it (fun i h => IsRangeIter h it (lo + (i : Nat) * 1) ((n : Int) - (i : Nat)) 1) where
  mem := by simp
  obj := fun i h st b hb => by
    have e : b = it := by simpa using hb
    subst e
    exact ⟨_, st, fun v z => by
      have z' : Data.fields _ = Data.cell v := z
      cases z'⟩
  keep := fun i h h' st k => k it (by simp) _ st
  item := by
    intro X hP hw hK hc i pins s σ H E I hf st hg
    subst hP hw hK
    obtain ⟨f0, f1, f2, f3, f4, f5⟩ := hf it (by simp)
    have W := Walks.range (prog := X.prog) (w := X.w) (I.ok.hd hc) it lo 1 n
    refine W.item i s _ _ hg st fun v h' tk hv st' kk => ?_
    obtain ⟨t, rfl⟩ := hv
    have I1 : Inv X pins σ H { s with heap := h', toks := tk } := I.turned (fun b o hb e => kk b o (by simpa using hb) e) f0 f1 f3 f4 f5
    refine ⟨_, rfl, go_of (s := { s with heap := h', toks := tk }) (n := "range_iterator") st' rfl rfl (by decide) ⟨.int (lo + i), H, I1, ⟨t, ?_⟩, ⟨rfl, rfl⟩, st', fun b hb => (hf b hb).1⟩⟩
    rw [Int.mul_one]
  done := by
    intro X hP hw hK hc i pins s σ H E I hf st hg
    subst hP hw hK
    obtain ⟨f0, f1, f2, f3, f4, f5⟩ := hf it (by simp)
    exact wpAny_pyNext_range_end (I.ok.hd hc) st (by have : n ≤ i := hg; omega) fun h' eb => ⟨rfl, I.turned (t' := s.toks) (fun b o hb e => eb b o hb e) f0 f1 f3 f4 f5⟩
  self := fun _ _ _ _ _ st h => wpAny_pyIter_rangeiter st h
end L2
namespace L2
open PySem PySem.Spec PyProof.Rows
section
variable {X : Cx} {tg : Expr}
def iList (K : PySem.W.Frag) (tl : TE) : TI := fun σ H R => tl σ H fun x H1 => ∃ a, x = .ref a ∧ (∃ xs, SqL K H1 a xs) ∧ R (Itl K a) H1
def iTup (K : PySem.W.Frag) (tl : TE) : TI := fun σ H R => tl σ H fun x H1 => ∃ a, x = .ref a ∧ (∃ xs, SqT K H1 a xs) ∧ R (Itt K a) H1
theorem pi_list {l : Expr} {tl : TE} (hl : PE X l tl) : PI X tg l (iList X.K tl) := by
  intro pins s σ H R I h
  refine thn (hl pins s σ H _ I h) fun v s1 ⟨x, H1, I1, r1, q1⟩ => ?_
  obtain ⟨a, e, ⟨xs, hq⟩, q⟩ := q1
  subst e
  cases r1
  obtain ⟨its, rv, p, hz⟩ := I1.list hq
  refine wpAny_pyIter_list p.isList ?_
  refine ⟨s1.heap.objs.size, [s1.heap.objs.size], _, _, H1, rfl, I1.kept (t' := s1.toks) fun b o e => Heap.get?_push_of_some _ e, turn_list a _, ⟨_, Heap.get?_push_size _ rfl, rfl, rfl⟩, fun b hb => ?_, q⟩
  have e : b = s1.heap.objs.size := by simpa using hb
  subst e
  exact I1.fpOk (Nat.le_refl _) (I1.hok.fresh (Nat.le_refl _))
theorem pi_tup {l : Expr} {tl : TE} (hl : PE X l tl) : PI X tg l (iTup X.K tl) := by
  intro pins s σ H R I h
  refine thn (hl pins s σ H _ I h) fun v s1 ⟨x, H1, I1, r1, q1⟩ => ?_
  obtain ⟨a, e, ⟨xs, hq⟩, q⟩ := q1
  subst e
  cases r1
  obtain ⟨its, rv, p, hz⟩ := I1.tuple hq
  refine wpAny_pyIter_tuple (show s1.heap.IsTuple a its.toArray from p) ?_
  refine ⟨s1.heap.objs.size, [s1.heap.objs.size], _, _, H1, rfl, I1.kept (t' := s1.toks) fun b o e => Heap.get?_push_of_some _ e, turn_tuple a _, ⟨_, Heap.get?_push_size _ rfl, rfl, rfl⟩, fun b hb => ?_, q⟩
  have e : b = s1.heap.objs.size := by simpa using hb
  subst e
  exact I1.fpOk (Nat.le_refl _) (I1.hok.fresh (Nat.le_refl _))
theorem range_it {pins : List (Addr × Obj)} {σ : St} {H : Hp} {s : Shared} {R : It → Hp → Prop} {E : Value → Shared → Prop} {lo hi : Int} {t u v : Tok} {tk : Nat} (I : Inv X pins σ H s) (h1 : -(2 ^ 62) ≤ lo) (h2 : lo < 2 ^ 62) (h3 : -(2 ^ 62) ≤ hi) (h4 : hi < 2 ^ 62)
    (q : R (Itr lo (hi - lo).toNat) H) : wpAny (model X.prog X.w) X.A (pyIter (.ref s.heap.objs.size)) (PIE X pins σ tg R) E { s with heap := s.heap.push { cls := .type "range", data := .fields #[.int lo t, .int hi u, .int 1 v] }, toks := tk } := by
  refine wpAny_pyIter_range (IsRange.new ..) (small_one h1 h2 h3 h4) ?_
  have I1 : Inv X pins σ H { s with heap := s.heap.push { cls := .type "range", data := .fields #[.int lo t, .int hi u, .int 1 v] }, toks := tk } := I.kept fun b o e => Heap.get?_push_of_some _ e
  refine ⟨(s.heap.push { cls := .type "range", data := .fields #[.int lo t, .int hi u, .int 1 v] }).objs.size, [(s.heap.push { cls := .type "range", data := .fields #[.int lo t, .int hi u, .int 1 v] }).objs.size], _, _, H, rfl,
    I1.kept (t' := tk) fun b o e => Heap.get?_push_of_some _ e, turn_range _ lo (hi - lo).toNat, ?_, fun b hb => ?_, q⟩
  · have e1 : lo + ((0 : Nat) : Int) * 1 = lo := by simp
    have e2 : (((hi - lo).toNat : Nat) : Int) - ((0 : Nat) : Int) = Builtin.Range.rangeSize lo hi 1 := by rw [rangeSize_one]; split <;> omega
    show IsRangeIter _ _ (lo + ((0 : Nat) : Int) * 1) ((((hi - lo).toNat : Nat) : Int) - ((0 : Nat) : Int)) 1
    rw [e1, e2]
    exact Heap.get?_push_size _ rfl
  · have e : b = (s.heap.push { cls := .type "range", data := .fields #[.int lo t, .int hi u, .int 1 v] }).objs.size := by simpa using hb
    subst e
    exact I1.fpOk (Nat.le_refl _) (I1.hok.fresh (Nat.le_refl _))
def iRng1 (ta : TA) : TI := fun σ H R => ta σ H fun vs H1 => ∃ j : Int, vs = [.int j] ∧ -(2 ^ 62) ≤ j ∧ j < 2 ^ 62 ∧ R (Itr 0 j.toNat) H1
def iRng2 (ta : TA) : TI := fun σ H R => ta σ H fun vs H1 => ∃ i j : Int, vs = [.int i, .int j] ∧ (-(2 ^ 62) ≤ i ∧ i < 2 ^ 62 ∧ -(2 ^ 62) ≤ j ∧ j < 2 ^ 62) ∧ R (Itr i (j - i).toNat) H1
theorem pi_range1 {a : Expr} {ta : TA} {p pos : Pos} (hg : Gl X "range") (hm : X.mg "range" = none) (ha : PA X [a] ta) (hs : starEach [a] X.env = [(false, eval a X.env)] := by rfl) : PI X tg (.Call (.Name "range" p) [a] [] pos) (iRng1 ta) := by
  intro pins s σ H R I h
  refine Call_ (ld_blt I hg hm boot_range (PyProof.Rows.callWith_type1 (thn (ha pos pins s σ H _ I h) fun us s1 ⟨vs, H1, I1, r1, q1⟩ => ?_) hs rfl))
  obtain ⟨j, e, q1, q2, q⟩ := q1
  subst e
  cases r1 with
  | cons r rr =>
    cases rr
    obtain ⟨t, rfl⟩ := r
    exact call_range_1 (range_it I1 (by omega) (by omega) q1 q2 (by simpa using q))
theorem pi_range2 {a b : Expr} {ta : TA} {p pos : Pos} (hg : Gl X "range") (hm : X.mg "range" = none) (ha : PA X [a, b] ta) (hs : starEach [a, b] X.env = [(false, eval a X.env), (false, eval b X.env)] := by rfl) (hs2 : starEach [b] X.env = [(false, eval b X.env)] := by rfl) :
    PI X tg (.Call (.Name "range" p) [a, b] [] pos) (iRng2 ta) := by
  intro pins s σ H R I h
  refine Call_ (ld_blt I hg hm boot_range (PyProof.Rows.callWith_type1 (thn (ha pos pins s σ H _ I h) fun us s1 ⟨vs, H1, I1, r1, q1⟩ => ?_) (by rw [hs, hs2]) (by rw [hs2]; rfl)))
  obtain ⟨i, j, e, ⟨q1, q2, q3, q4⟩, q⟩ := q1
  subst e
  cases r1 with
  | cons r rr =>
    cases rr with
    | cons r' rr =>
      cases rr
      obtain ⟨t, rfl⟩ := r
      obtain ⟨t', rfl⟩ := r'
      exact call_range_2 (range_it I1 q1 q2 q3 q4 q)
def tFor (wi : TI) (g : TG) (tb : TS) : TS := fun D σ H => wi σ H fun J H1 => ∃ W : Nat → Nat → St → Hp → Prop, (∃ m, W 0 m σ H1) ∧ ∀ i m σ H, W i m σ H →
  (J.stop i H ∧ D.nx σ H) ∨ (J.go i H ∧ ∃ N : St → Hp → Prop, (∀ σ' H', N σ' H' → ∃ m', m' < m ∧ W (i + 1) m' σ' H') ∧ ∀ x H', J.yld i H x H' → g x σ H' fun σ2 H2 => tb { D with nx := N, ct := N, bk := D.nx } σ2 H2)
def pinsAt (fp : List Addr) (h : Heap) : List (Addr × Obj) := fp.filterMap fun b => (h.get? b).map fun o => (b, o)
theorem mem_pinsAt {fp : List Addr} {h : Heap} {b : Addr} {o : Obj} (hb : b ∈ fp) (e : h.get? b = some o) : (b, o) ∈ pinsAt fp h := List.mem_filterMap.mpr ⟨b, hb, by rw [e]; rfl⟩
theorem of_pinsAt {fp : List Addr} {h : Heap} {p : Addr × Obj} (hp : p ∈ pinsAt fp h) : p.1 ∈ fp ∧ h.get? p.1 = some p.2 := by
  obtain ⟨b, hb, e⟩ := List.mem_filterMap.mp hp
  cases q : h.get? b with
  | none => rw [q] at e; cases e
  | some o =>
    rw [q] at e
    have e' : (b, o) = p := Option.some.inj e
    subst e'
    exact ⟨hb, q⟩
theorem Inv.pinned {pins : List (Addr × Obj)} {σ : St} {H : Hp} {s : Shared} {fp : List Addr} (I : Inv X pins σ H s) (hf : ∀ b ∈ fp, FpOk X pins H b) (ho : ∀ b ∈ fp, ∃ o, s.heap.get? b = some o ∧ ∀ v, o.data ≠ .cell v) : Inv X (pins ++ pinsAt fp s.heap) σ H s :=
  I.pins_of fun p hp => (List.mem_append.mp hp).elim (fun z => I.pin p (List.mem_append_right _ z)) fun z => by
    obtain ⟨hb, e⟩ := of_pinsAt z
    obtain ⟨f0, f1, f2, _⟩ := hf p.1 hb
    obtain ⟨o, e', d⟩ := ho p.1 hb
    rw [e] at e'; cases e'
    exact ⟨e, f0, f1, f2, d⟩
theorem Inv.unpinned {pins pl : List (Addr × Obj)} {σ : St} {H : Hp} {s : Shared} (I : Inv X (pins ++ pl) σ H s) : Inv X pins σ H s := I.pins_of fun p hp => I.pin p (List.mem_append_right _ (List.mem_append_left _ hp))
theorem ps_for {iter : Expr} {body : List Stmt} {wi : TI} {g : TG} {tb : TS} {pos : Pos} (hp : PassesOwn (model X.prog X.w) X.A X.env X.xe) (hc : X.calm = true) (hi : PI X tg iter wi) (hg : PG X tg g) (hb : PSs X body tb)
    (hs : ∀ x, foldedSetIterable iter X.env x = pure x := by intro _; rfl) : PS X (.For tg iter body [] pos) (tFor wi g tb) := by
  intro pins s σ H D I h
  refine wpAny_For (thn (hi pins s σ H _ I h) fun v s1 h1 => thn h1 fun itv s2 h2 => ?_) hs
  obtain ⟨it, fp, tn, J, H2, e, I2, T, st2, f2, W, ⟨m0, w0⟩, turn⟩ := h2
  subst e
  have stat : ∀ {H' : Hp}, (∀ b ∈ fp, H' b = none) → ∀ b ∈ fp, FpOk X pins H' b := fun hn b hb => ⟨hn b hb, (f2 b hb).2⟩
  refine codeAny_forLoop_any (fun n s' => ∃ i σ' H', Inv X pins σ' H' s' ∧ tn i s'.heap ∧ (∀ b ∈ fp, H' b = none) ∧ W i n σ' H') ?_ m0 ⟨0, σ, H2, I2, st2, fun b hb => (f2 b hb).1, w0⟩
  rintro n s3 ⟨i, σ3, H3, I3, st3, fr3, w3⟩
  rcases turn i n σ3 H3 w3 with ⟨stop, qn⟩ | ⟨go, N, hN, step⟩
  · refine wpAny_passesOwn hp (thn (T.done X rfl rfl rfl hc i pins s3 σ3 H3 X.xe I3 (stat fr3) st3 stop) fun r s4 ⟨hr, I4⟩ => ?_)
    subst hr
    exact wpAny_execs_nil ⟨σ3, H3, I4, qn⟩
  · refine wpAny_passesOwn hp (thn (T.item X rfl rfl rfl hc i pins s3 σ3 H3 X.xe I3 (stat fr3) st3 go) fun r s4 ⟨u, hr, h4⟩ => ?_)
    subst hr
    refine wpAny_passesOwn hp (thn h4 fun _ s5 ⟨x, H5, I5, r5, y5, st5, fr5⟩ => ?_)
    have I5' := I5.pinned (stat fr5) (T.obj _ _ st5)
    refine wpAny_passesOwn hp (thn (hg _ s5 σ3 H5 x u _ I5' r5 (step x H5 y5)) fun _ s6 ⟨σ6, H6, I6, q6⟩ => ?_)
    refine wpAny_passesOwn hp (thn (hb _ s6 σ6 H6 _ I6 q6) fun f s7 q7 => ?_)
    have again : ∀ {σ7 : St} {H7 : Hp}, Inv X (pins ++ pinsAt fp s5.heap) σ7 H7 s7 → N σ7 H7 → ∃ m, m < n ∧ ∃ i σ' H', Inv X pins σ' H' s7 ∧ tn i s7.heap ∧ (∀ b ∈ fp, H' b = none) ∧ W i m σ' H' := fun {σ7 H7} I7 n7 => by
      obtain ⟨m', hm, w7⟩ := hN σ7 H7 n7
      refine ⟨m', hm, i + 1, σ7, H7, I7.unpinned, T.keep _ _ _ st5 fun b hb o e => (I7.pin (b, o) (List.mem_append_right _ (List.mem_append_right _ (mem_pinsAt hb e)))).1, fun b hb => ?_, w7⟩
      obtain ⟨o, e, d⟩ := T.obj _ _ st5 b hb
      exact (I7.pin (b, o) (List.mem_append_right _ (List.mem_append_right _ (mem_pinsAt hb e)))).2.1
    cases f with
    | next => obtain ⟨σ7, H7, I7, n7⟩ := q7; exact again I7 n7
    | cont => obtain ⟨σ7, H7, I7, n7⟩ := q7; exact again I7 n7
    | brk => obtain ⟨σ7, H7, I7, q7⟩ := q7; exact ⟨σ7, H7, I7.unpinned, q7⟩
    | ret v => obtain ⟨x7, σ7, H7, I7, r7, q7⟩ := q7; exact ⟨x7, σ7, H7, I7.unpinned, r7, q7⟩
end
theorem for_list {K : PySem.W.Frag} {a : Addr} {xs : List V} {g : TG} {tb : TS} {D : Ends} {σ : St} {H : Hp} (Pv : Nat → St → Hp → Prop) (h0 : Pv 0 σ H) (hl : ∀ i σ H, i ≤ xs.length → Pv i σ H → SqL K H a xs)
    (hs : ∀ i x σ H, xs[i]? = some x → Pv i σ H → g x σ H fun σ2 H2 => tb { D with nx := Pv (i + 1), ct := Pv (i + 1), bk := D.nx } σ2 H2) (hd : ∀ σ H, Pv xs.length σ H → D.nx σ H) :
    ∃ W : Nat → Nat → St → Hp → Prop, (∃ m, W 0 m σ H) ∧ ∀ i m σ H, W i m σ H →
      ((Itl K a).stop i H ∧ D.nx σ H) ∨ ((Itl K a).go i H ∧ ∃ N : St → Hp → Prop, (∀ σ' H', N σ' H' → ∃ m', m' < m ∧ W (i + 1) m' σ' H') ∧ ∀ x H', (Itl K a).yld i H x H' → g x σ H' fun σ2 H2 => tb { D with nx := N, ct := N, bk := D.nx } σ2 H2) := by
  refine ⟨fun i m σ H => m = xs.length - i ∧ i ≤ xs.length ∧ Pv i σ H, ⟨xs.length, by simp, Nat.zero_le _, h0⟩, ?_⟩
  rintro i m σ H ⟨rfl, hi, p⟩
  have q := hl i σ H hi p
  by_cases hlt : i < xs.length
  · refine .inr ⟨⟨xs, xs[i], q, by simp [hlt]⟩, Pv (i + 1), fun σ' H' p' => ⟨xs.length - (i + 1), by omega, rfl, hlt, p'⟩, fun x H' y => ?_⟩
    obtain ⟨e, y⟩ := y
    subst e
    exact hs i x σ _ (y xs q) p
  · have e : i = xs.length := by omega
    subst e
    exact .inl ⟨⟨xs, q, Nat.le_refl _⟩, hd σ H p⟩
theorem for_range {lo : Int} {n : Nat} {g : TG} {tb : TS} {D : Ends} {σ : St} {H : Hp} (Pv : Nat → St → Hp → Prop) (h0 : Pv 0 σ H)
    (hs : ∀ i σ H, i < n → Pv i σ H → g (.int (lo + i)) σ H fun σ2 H2 => tb { D with nx := Pv (i + 1), ct := Pv (i + 1), bk := D.nx } σ2 H2) (hd : ∀ σ H, Pv n σ H → D.nx σ H) :
    ∃ W : Nat → Nat → St → Hp → Prop, (∃ m, W 0 m σ H) ∧ ∀ i m σ H, W i m σ H →
      ((Itr lo n).stop i H ∧ D.nx σ H) ∨ ((Itr lo n).go i H ∧ ∃ N : St → Hp → Prop, (∀ σ' H', N σ' H' → ∃ m', m' < m ∧ W (i + 1) m' σ' H') ∧ ∀ x H', (Itr lo n).yld i H x H' → g x σ H' fun σ2 H2 => tb { D with nx := N, ct := N, bk := D.nx } σ2 H2) := by
  refine ⟨fun i m σ H => m = n - i ∧ i ≤ n ∧ Pv i σ H, ⟨n, by simp, Nat.zero_le _, h0⟩, ?_⟩
  rintro i m σ H ⟨rfl, hi, p⟩
  by_cases hlt : i < n
  · refine .inr ⟨hlt, Pv (i + 1), fun σ' H' p' => ⟨n - (i + 1), by omega, rfl, hlt, p'⟩, fun x H' y => ?_⟩
    obtain ⟨e, y⟩ := y
    subst e y
    exact hs i σ _ hlt p
  · have e : i = n := by omega
    subst e
    exact .inl ⟨Nat.le_refl _, hd σ H p⟩
theorem while_by {c : TT} {tb : TS} {D : Ends} {σ : St} {H : Hp} (Pv : St → Hp → Prop) (μ : St → Hp → Nat) (h0 : Pv σ H)
    (hs : ∀ σ H, Pv σ H → c σ H fun b H1 => if b = true then tb { D with nx := fun σ' H' => Pv σ' H' ∧ μ σ' H' < μ σ H, ct := fun σ' H' => Pv σ' H' ∧ μ σ' H' < μ σ H, bk := D.nx } σ H1 else D.nx σ H1)
    (mono : ∀ σ H Q Q', (∀ b H1, Q b H1 → Q' b H1) → c σ H Q → c σ H Q') : tWhile c tb D σ H := by
  refine ⟨fun m σ H => m = μ σ H ∧ Pv σ H, ⟨_, rfl, h0⟩, ?_⟩
  rintro m σ H ⟨rfl, p⟩
  refine mono σ H _ _ (fun b H1 q => ?_) (hs σ H p)
  cases b with
  | true => exact ⟨_, fun σ' H' ⟨p', l⟩ => ⟨_, l, rfl, p'⟩, q⟩
  | false => exact q
end L2
namespace L2
open PySem PySem.Spec PyProof.Rows
abbrev R2 := V → V → Hp → VK → Prop
def OpR (X : Cx) (f : Value → Value → Sem Value) (r : R2) : Prop :=
  ∀ (pins : List (Addr × Obj)) (s : Shared) (σ : St) (H : Hp) (x y : V) (v u : Value) (Q : VK), Inv X pins σ H s → RelV x v → RelV y u → r x y H Q →
    wpAny (model X.prog X.w) X.A (f v u) (EP X pins σ Q) X.xe s
def UnR (X : Cx) (f : Value → Sem Value) (r : V → Hp → VK → Prop) : Prop :=
  ∀ (pins : List (Addr × Obj)) (s : Shared) (σ : St) (H : Hp) (x : V) (v : Value) (Q : VK), Inv X pins σ H s → RelV x v → r x H Q →
    wpAny (model X.prog X.w) X.A (f v) (EP X pins σ Q) X.xe s
def CallR (X : Cx) (f : Value) (r : List V → Hp → VK → Prop) : Prop :=
  ∀ (pins : List (Addr × Obj)) (s : Shared) (σ : St) (H : Hp) (xs : List V) (us : List Value) (Q : VK), Inv X pins σ H s → Vals xs us → r xs H Q →
    wpAny (model X.prog X.w) X.A (call f us) (EP X pins σ Q) X.xe s
def tOp (r : R2) (ta tb : TE) : TE := fun σ H Q => ta σ H fun x H1 => tb σ H1 fun y H2 => r x y H2 Q
def tUn (r : V → Hp → VK → Prop) (ta : TE) : TE := fun σ H Q => ta σ H fun x H1 => r x H1 Q
def rI (C : Int → Int → Prop) (g : Int → Int → V) : R2 := fun x y H Q => ∃ i j, x = .int i ∧ y = .int j ∧ C i j ∧ Q (g i j) H
def rI0 (g : Int → Int → V) : R2 := fun x y H Q => ∃ i j, x = .int i ∧ y = .int j ∧ Q (g i j) H
def rU (g : Int → V) : V → Hp → VK → Prop := fun x H Q => ∃ i, x = .int i ∧ Q (g i) H
section
variable {X : Cx} {a b c : Expr} {ta tb tc : TE} {pos : Pos}
theorem binT (ha : PE X a ta) (hb : PE X b tb) {pins : List (Addr × Obj)} {s : Shared} {σ : St} {H : Hp} {R : V → V → Hp → Prop} (I : Inv X pins σ H s)
    (h : ta σ H fun x H1 => tb σ H1 fun y H2 => R x y H2) {Q : Value → Shared → Prop} {f : Value → Value → Sem Value}
    (hf : ∀ v u s2 x y H2, Inv X pins σ H2 s2 → RelV x v → RelV y u → R x y H2 → wpAny (model X.prog X.w) X.A (f v u) Q X.xe s2) :
    wpAny (model X.prog X.w) X.A (eval a X.env) (fun v s₁ => wpAny (model X.prog X.w) X.A (eval b X.env) (fun u s₂ => wpAny (model X.prog X.w) X.A (f v u) Q X.xe s₂) X.xe s₁) X.xe s := by
  refine thn (ha pins s σ H _ I h) fun v s1 ⟨x, H1, I1, r1, q1⟩ => ?_
  refine thn (hb pins s1 σ H1 _ I1 q1) fun u s2 ⟨y, H2, I2, r2, q2⟩ => ?_
  exact hf v u s2 x y H2 I2 r1 r2 q2
theorem pe_op {op : Operator} {r : R2} (ho : OpR X (binaryOp op) r) (ha : PE X a ta) (hb : PE X b tb) : PE X (.BinOp a op b pos) (tOp r ta tb) := by
  intro pins s σ H Q I h
  exact wpAny_BinOp (binT ha hb I h fun v u s2 x y H2 I2 rx ry q => ho pins s2 σ H2 x y v u Q I2 rx ry q)
theorem opI {f : Value → Value → Sem Value} {C : Int → Int → Prop} {g : Int → Int → Int}
    (rule : ∀ (i j : Int) (t u : Tok) (s : Shared) (Q : Value → Shared → Prop) (E : Value → Shared → Prop), C i j → Q (.int (g i j) s.toks) { s with toks := s.toks + 1 } → wpAny (model X.prog X.w) X.A (f (.int i t) (.int j u)) Q E s) :
    OpR X f (rI C fun i j => .int (g i j)) := by
  intro pins s σ H x y v u Q I rx ry h
  obtain ⟨i, j, rfl, rfl, hc, q⟩ := h
  obtain ⟨t, rfl⟩ := rx
  obtain ⟨t', rfl⟩ := ry
  exact rule i j t t' s _ _ hc ⟨.int (g i j), H, I.tok _, ⟨_, rfl⟩, q⟩
theorem opI0 {f : Value → Value → Sem Value} {g : Int → Int → Int}
    (rule : ∀ (i j : Int) (t u : Tok) (s : Shared) (Q : Value → Shared → Prop) (E : Value → Shared → Prop), Q (.int (g i j) s.toks) { s with toks := s.toks + 1 } → wpAny (model X.prog X.w) X.A (f (.int i t) (.int j u)) Q E s) :
    OpR X f (rI0 fun i j => .int (g i j)) := by
  intro pins s σ H x y v u Q I rx ry h
  obtain ⟨i, j, rfl, rfl, q⟩ := h
  obtain ⟨t, rfl⟩ := rx
  obtain ⟨t', rfl⟩ := ry
  exact rule i j t t' s _ _ ⟨.int (g i j), H, I.tok _, ⟨_, rfl⟩, q⟩
theorem opB0 {f : Value → Value → Sem Value} {g : Int → Int → Bool}
    (rule : ∀ (i j : Int) (t u : Tok) (s : Shared) (Q : Value → Shared → Prop) (E : Value → Shared → Prop), Q (.bool (g i j)) s → wpAny (model X.prog X.w) X.A (f (.int i t) (.int j u)) Q E s) :
    OpR X f (rI0 fun i j => .bl (g i j)) := by
  intro pins s σ H x y v u Q I rx ry h
  obtain ⟨i, j, rfl, rfl, q⟩ := h
  obtain ⟨t, rfl⟩ := rx
  obtain ⟨t', rfl⟩ := ry
  exact rule i j t t' s _ _ ⟨.bl (g i j), H, I, rfl, q⟩
def CPow (i j : Int) : Prop := 0 ≤ j ∧ j ≤ 1000000 ∧ i.natAbs < 2 ^ 64
def CMul (i j : Int) : Prop := (-(2 ^ 64) < i ∧ i < 2 ^ 64) ∨ (-(2 ^ 64) < j ∧ j < 2 ^ 64)
theorem CMul.ok {i j : Int} (h : CMul i j) : IntMulOk i j := by
  rcases h with ⟨h1, h2⟩ | ⟨h1, h2⟩
  · exact .of_left (intBits_le_64 h1 h2)
  · exact .of_right (intBits_le_64 h1 h2)
theorem op_add : OpR X (binaryOp .Add) (rI0 fun i j => .int (i + j)) := opI0 fun _ _ _ _ _ _ _ q => add_int q
theorem op_sub : OpR X (binaryOp .Sub) (rI0 fun i j => .int (i - j)) := opI0 fun _ _ _ _ _ _ _ q => sub_int q
theorem op_mod : OpR X (binaryOp .Mod) (rI (fun _ j => 0 < j) fun i j => .int (i % j)) := opI fun i j _ _ _ _ _ hc q => by
  have h1 : (0 : Int) < j := hc
  exact mod_int' (by omega) (by rw [Int.fmod_eq_emod_of_nonneg i (by omega)]; exact q)
theorem op_pow : OpR X (binaryOp .Pow) (rI CPow fun i j => .int (i ^ j.toNat)) := opI fun _ _ _ _ _ _ _ hc q => pow_int_small hc.1 hc.2.1 hc.2.2 q
end
def scal : V → V → Bool
  | .non, .non => true | .non, .int _ => true | .int _, .non => true | .non, .bl _ => true | .bl _, .non => true | .non, .str _ => true | .str _, .non => true
  | .int _, .int _ => true | .bl _, .bl _ => true | .str _, .str _ => true | .byt _, .byt _ => true
  | .int _, .str _ => true | .str _, .int _ => true | .bl _, .str _ => true | .str _, .bl _ => true
  | _, _ => false
def rEq : R2 := fun x y H Q => scal x y = true ∧ Q (.bl (decide (x = y))) H
def rNe : R2 := fun x y H Q => scal x y = true ∧ Q (.bl (!decide (x = y))) H
theorem dec_int {i j : Int} : decide (V.int i = V.int j) = (i == j) := by
  rw [Bool.eq_iff_iff]
  simp
theorem dec_bl {i j : Bool} : decide (V.bl i = V.bl j) = (i == j) := by
  rw [Bool.eq_iff_iff]
  simp
theorem dec_str {i j : Str} : decide (V.str i = V.str j) = (i == j) := by
  rw [Bool.eq_iff_iff]
  simp
theorem dec_byt {i j : Array UInt8} : decide (V.byt i = V.byt j) = (i.toList == j.toList) := by
  rw [Bool.eq_iff_iff]
  cases i
  cases j
  simp
section
variable {X : Cx} {a b c : Expr} {ta tb tc : TE} {pos : Pos}
theorem fin_bl {pins : List (Addr × Obj)} {σ : St} {H : Hp} {s : Shared} {Q : VK} {k k' : Bool} (I : Inv X pins σ H s) (q : Q (.bl k) H) (e : k = k') : EP X pins σ Q (.bool k') s := by
  subst e
  exact ⟨.bl k, H, I, rfl, q⟩
theorem op_eq : OpR X (compareOp .Eq) rEq := by
  intro pins s σ H x y v u Q I rx ry h
  obtain ⟨hs, q⟩ := h
  cases x with
  | non =>
    cases rx
    cases y with
    | non => cases ry; exact PySem.EqNone.eq_none_none (fin_bl I q (by simp))
    | bl j => cases ry; exact PySem.EqNone.eq_none_bool (fin_bl I q (by simp))
    | int j => obtain ⟨t', rfl⟩ := ry; exact PySem.EqNone.eq_none_int (fin_bl I q (by simp))
    | str j => obtain ⟨t', rfl⟩ := ry; exact PySem.EqNone.eq_none_str (fin_bl I q (by simp))
    | _ => exact absurd (show false = true from hs) Bool.false_ne_true
  | bl i =>
    cases rx
    cases y with
    | non => cases ry; exact PySem.EqNone.eq_bool_none (fin_bl I q (by simp))
    | bl j => cases ry; exact eq_bool (fin_bl I q dec_bl)
    | str j => obtain ⟨t', rfl⟩ := ry; exact PySem.EqMixed.eq_bool_str (fin_bl I q (by simp))
    | _ => exact absurd (show false = true from hs) Bool.false_ne_true
  | int i =>
    obtain ⟨t, rfl⟩ := rx
    cases y with
    | non => cases ry; exact PySem.EqNone.eq_int_none (fin_bl I q (by simp))
    | int j => obtain ⟨t', rfl⟩ := ry; exact eq_int (fin_bl I q dec_int)
    | str j => obtain ⟨t', rfl⟩ := ry; exact PySem.EqMixed.eq_int_str (fin_bl I q (by simp))
    | _ => exact absurd (show false = true from hs) Bool.false_ne_true
  | str i =>
    obtain ⟨t, rfl⟩ := rx
    cases y with
    | non => cases ry; exact PySem.EqNone.eq_str_none (fin_bl I q (by simp))
    | bl j => cases ry; exact PySem.EqMixed.eq_str_bool (fin_bl I q (by simp))
    | int j => obtain ⟨t', rfl⟩ := ry; exact PySem.EqMixed.eq_str_int (fin_bl I q (by simp))
    | str j => obtain ⟨t', rfl⟩ := ry; exact eq_str (fin_bl I q dec_str)
    | _ => exact absurd (show false = true from hs) Bool.false_ne_true
  | byt i =>
    obtain ⟨t, rfl⟩ := rx
    cases y with
    | byt j => obtain ⟨t', rfl⟩ := ry; exact PySem.W.eq_bytes (fin_bl I q dec_byt)
    | _ => exact absurd (show false = true from hs) Bool.false_ne_true
  | _ => cases y <;> exact absurd (show false = true from hs) Bool.false_ne_true
theorem op_ne : OpR X (compareOp .NotEq) rNe := by
  intro pins s σ H x y v u Q I rx ry h
  obtain ⟨hs, q⟩ := h
  cases x with
  | non =>
    cases rx
    cases y with
    | non => cases ry; exact PySem.EqNone.ne_none_none (fin_bl I q (by simp))
    | bl j => cases ry; exact PySem.EqNone.ne_none_bool (fin_bl I q (by simp))
    | int j => obtain ⟨t', rfl⟩ := ry; exact PySem.EqNone.ne_none_int (fin_bl I q (by simp))
    | str j => obtain ⟨t', rfl⟩ := ry; exact PySem.EqNone.ne_none_str (fin_bl I q (by simp))
    | _ => exact absurd (show false = true from hs) Bool.false_ne_true
  | bl i =>
    cases rx
    cases y with
    | non => cases ry; exact PySem.EqNone.ne_bool_none (fin_bl I q (by simp))
    | bl j => cases ry; exact ne_bool (fin_bl I q (congrArg not dec_bl))
    | str j => obtain ⟨t', rfl⟩ := ry; exact PySem.EqMixed.ne_bool_str (fin_bl I q (by simp))
    | _ => exact absurd (show false = true from hs) Bool.false_ne_true
  | int i =>
    obtain ⟨t, rfl⟩ := rx
    cases y with
    | non => cases ry; exact PySem.EqNone.ne_int_none (fin_bl I q (by simp))
    | int j => obtain ⟨t', rfl⟩ := ry; exact ne_int (fin_bl I q (congrArg not dec_int))
    | str j => obtain ⟨t', rfl⟩ := ry; exact PySem.EqMixed.ne_int_str (fin_bl I q (by simp))
    | _ => exact absurd (show false = true from hs) Bool.false_ne_true
  | str i =>
    obtain ⟨t, rfl⟩ := rx
    cases y with
    | non => cases ry; exact PySem.EqNone.ne_str_none (fin_bl I q (by simp))
    | bl j => cases ry; exact PySem.EqMixed.ne_str_bool (fin_bl I q (by simp))
    | int j => obtain ⟨t', rfl⟩ := ry; exact PySem.EqMixed.ne_str_int (fin_bl I q (by simp))
    | str j => obtain ⟨t', rfl⟩ := ry; exact ne_str (fin_bl I q (congrArg not dec_str))
    | _ => exact absurd (show false = true from hs) Bool.false_ne_true
  | byt i =>
    obtain ⟨t, rfl⟩ := rx
    cases y with
    | byt j => obtain ⟨t', rfl⟩ := ry; exact PySem.W.ne_bytes (fin_bl I q (congrArg not dec_byt))
    | _ => exact absurd (show false = true from hs) Bool.false_ne_true
  | _ => cases y <;> exact absurd (show false = true from hs) Bool.false_ne_true
theorem op_lt : OpR X (compareOp .Lt) (rI0 fun i j => .bl (decide (i < j))) := opB0 fun _ _ _ _ _ _ _ q => lt_int q
theorem op_le : OpR X (compareOp .LtE) (rI0 fun i j => .bl (decide (i ≤ j))) := opB0 fun _ _ _ _ _ _ _ q => le_int q
theorem op_gt : OpR X (compareOp .Gt) (rI0 fun i j => .bl (decide (j < i))) := opB0 fun _ _ _ _ _ _ _ q => gt_int q
theorem op_ge : OpR X (compareOp .GtE) (rI0 fun i j => .bl (decide (j ≤ i))) := opB0 fun _ _ _ _ _ _ _ q => ge_int q
theorem OpR.or {f : Value → Value → Sem Value} {r r' : R2} (h : OpR X f r) (h' : OpR X f r') : OpR X f (fun x y H Q => r x y H Q ∨ r' x y H Q) := by
  intro pins s σ H x y v u Q I rx ry q
  rcases q with q | q
  · exact h pins s σ H x y v u Q I rx ry q
  · exact h' pins s σ H x y v u Q I rx ry q
theorem nomark (b : Expr) {op : CmpOp} (h : op ≠ .In := by decide) (h2 : op ≠ .NotIn := by decide) : behindInMarks op b = false := by
  have e1 : (op == CmpOp.In) = false := by cases op <;> first | rfl | exact absurd rfl h
  have e2 : (op == CmpOp.NotIn) = false := by cases op <;> first | rfl | exact absurd rfl h2
  cases b <;> simp [behindInMarks, e1, e2]
theorem pe_cmpR {op : CmpOp} {r : R2} (ho : OpR X (compareOp op) r) (ha : PE X a ta) (hb : PE X b tb) (hm : behindInMarks op b = false) : PE X (.Compare a [op] [b] pos) (tOp r ta tb) := by
  intro pins s σ H Q I h
  exact wpAny_Compare1 (binT ha hb I h fun v u s2 x y H2 I2 rx ry q => ho pins s2 σ H2 x y v u Q I2 rx ry q) hm
def tTest (t : TE) : TT := fun σ H Q => t σ H fun x H' => ∃ k, x = .bl k ∧ Q k H'
theorem pt_cmpR {op : CmpOp} {r : R2} (ho : OpR X (compareOp op) r) (ha : PE X a ta) (hb : PE X b tb) (hm : behindInMarks op b = false) : PT X (.Compare a [op] [b] pos) (tTest (tOp r ta tb)) := by
  intro pins s σ H Q I h
  refine wpAny_isTrue_Compare1 (thn (ha pins s σ H _ I h) fun v s1 ⟨x, H1, I1, r1, q1⟩ => thn (hb pins s1 σ H1 _ I1 q1) fun u s2 ⟨y, H2, I2, r2, q2⟩ =>
    thn (ho pins s2 σ H2 x y v u _ I2 r1 r2 q2) fun c s3 ⟨z, H3, I3, r3, k, e, q3⟩ => ?_) hm
  subst e
  cases r3
  exact wpAny_truthy_bool ⟨H3, I3, q3⟩
theorem line63 : (sizeLine : Nat) < 2 ^ 63 := by rw [sizeLine_eq]; decide
theorem op_add_str : OpR X (binaryOp .Add) (fun x y H Q => ∃ i j, x = .str i ∧ y = .str j ∧ i.length + j.length ≤ sizeLine ∧ Q (.str (i ++ j)) H) := by
  intro pins s σ H x y v u Q I rx ry h
  obtain ⟨i, j, rfl, rfl, hz, q⟩ := h
  obtain ⟨t, rfl⟩ := rx
  obtain ⟨t', rfl⟩ := ry
  exact add_str (fun t' tk => ⟨.str (i ++ j), H, I.tok _, ⟨_, rfl⟩, q⟩) hz
theorem vals1 {x : V} {us : List Value} (r : Vals [x] us) : ∃ u, us = [u] ∧ RelV x u := by
  cases r with
  | cons r1 r2 => cases r2; exact ⟨_, rfl, r1⟩
theorem vals2 {x y : V} {us : List Value} (r : Vals [x, y] us) : ∃ u w', us = [u, w'] ∧ RelV x u ∧ RelV y w' := by
  cases r with
  | cons r1 r2 =>
    cases r2 with
    | cons r3 r4 => cases r4; exact ⟨_, _, rfl, r1, r3⟩
theorem call_abs : CallR X (.builtin "abs") (fun xs H Q => ∃ i, xs = [.int i] ∧ Q (.int (if i < 0 then -i else i)) H) := by
  intro pins s σ H xs us Q I r h
  obtain ⟨i, rfl, q⟩ := h
  obtain ⟨u, rfl, t, rfl⟩ := vals1 r
  exact call_abs_int fun u tk => ⟨.int (if i < 0 then -i else i), H, I.tok _, ⟨_, rfl⟩, q⟩
theorem call_str_int : CallR X (.type "str") (fun xs H Q => ∃ i, xs = [.int i] ∧ i.natAbs.log2 < 1920 ∧ Q (.str (toString i)) H) := by
  intro pins s σ H xs us Q I r h
  obtain ⟨i, rfl, hz, q⟩ := h
  obtain ⟨u, rfl, t, rfl⟩ := vals1 r
  exact PySem.P.str_of_int hz ⟨.str _, H, I.tok _, ⟨_, rfl⟩, q⟩
end
end L2
namespace L2
open PySem PySem.Spec PyProof.Rows
structure ObjM (h : Heap) (x dx C : Addr) (mA : Str → Option Value) : Prop where
  obj : h.get? x = some (PySem.W.instObj C dx)
  ns : h.Ns1 dx mA
  ne : dx ≠ x
theorem lookIn_ns {h : Heap} {dx : Addr} {mA : Str → Option Value} (n : h.Ns1 dx mA) : ∃ od, h.get? dx = some od ∧ ∀ name, PySem.W.lookIn name od = some (mA name) := by
  obtain ⟨o, es, ep, ho, hd, hk, _, hm⟩ := n
  refine ⟨o, ho, fun name => ?_⟩
  have e := hm name
  unfold nsFind findBy at e
  rw [← Array.find?_toList] at e
  unfold PySem.W.lookIn
  rw [hd]
  dsimp only
  split
  · rename_i y q
    rw [q] at e
    exact congrArg some e
  · rename_i q
    rw [q] at e
    have a : es.toList.any (·.refKey) = false := by
      rw [List.any_eq_false]
      intro y hy
      obtain ⟨z, t, hkey⟩ := hk y (Array.mem_toList_iff.mp hy)
      simp [DictEntry.refKey, hkey]
    have a' : ¬ es.toList.any (·.refKey) = true := by rw [a]; exact Bool.false_ne_true
    rw [if_neg a']
    exact congrArg some e
theorem ObjM.look {h : Heap} {x dx C : Addr} {mA : Str → Option Value} (I : ObjM h x dx C mA) : ∃ od, PySem.W.InstAt h x (PySem.W.instObj C dx) C (some od) ∧ ∀ name, PySem.W.lookIn name od = some (mA name) :=
  let ⟨od, ho, hl⟩ := lookIn_ns I.ns
  ⟨od, ⟨I.obj, rfl, rfl, ho⟩, hl⟩
section
variable {prog : Program} {w : World} {A : Around} {E : Value → Shared → Prop} {s : Shared} {K : PySem.W.Frag} {x dx C f : Addr} {mA : Str → Option Value} {name : Str} {v : Value}
end
def putF (f : Str) (v : V) : List (Str × V) → List (Str × V)
  | [] => [(f, v)]
  | (g, x) :: r => if g = f then (g, v) :: r else (g, x) :: putF f v r
section
variable {P : Program} {w : World} {H H' : Hp} {h h' : Heap} {a C dx : Addr} {fs fs' : List (Str × V)}
theorem ins_get (hok : HOk P w H h) (e : H a = some (.ins C dx fs)) : ∃ mA, ObjM h a dx C mA ∧ (∀ f, RelO (fs.lookup f) (mA f)) ∧ PySem.Within mA (fs.map (·.1)) ∧ fs.length ≤ 1000 ∧ H dx = some (.own a) := by
  obtain ⟨d, z, ne, ob, mA, n, r, q⟩ := (show ObjOk P w H h a (.ins C dx fs) from hok a _ e)
  exact ⟨mA, ⟨ob, n, ne⟩, r, q, z, d⟩
end
structure Cls (K : PySem.W.Frag) (C : Addr) : Prop where
  pg : PySem.W.plainGet K C Str.empty = true
  hd : PySem.W.hasDictIn K C = true
  po : PySem.W.plainOver K C = true
  sa : PySem.W.findIn K (.ref C) "__setattr__" = some (some (.builtin "object.__setattr__"))
theorem Cls.get {K : PySem.W.Frag} {C : Addr} (c : Cls K C) (f : Str) : PySem.W.plainGet K C f = true := c.pg
def NoAttr (K : PySem.W.Frag) (C : Addr) (f : Str) : Prop := PySem.W.findIn K (.ref C) f = some none
structure Meth (K : PySem.W.Frag) (C : Addr) (m : Str) (f : Addr) : Prop where
  at_ : PySem.W.findIn K (.ref C) m = some (some (.ref f))
  fn : PySem.W.isFn K (.ref f) = true
  kp : PySem.W.keepIn K (.ref f) = true
section
variable {X : Cx} {pins : List (Addr × Obj)} {σ : St} {H : Hp} {s : Shared} {a C dx : Addr} {fs : List (Str × V)} {f : Str} {v : V} {A : Around} {E : Value → Shared → Prop}
end
section
variable {X : Cx} {o e value : Expr} {f : Str} {pos pos' tpos : Pos} {ta tv : TE}
end
section
variable {X : Cx} {pins : List (Addr × Obj)} {σ : St} {H : Hp} {s : Shared} {A : Around} {E : Value → Shared → Prop} {Q : Value → Shared → Prop} {c : Value} {b : Bool}
inductive TyOf (K : PySem.W.Frag) (H : Hp) : V → Value → Prop where
  | non : TyOf K H .non (.type "NoneType")
  | bl (x : Bool) : TyOf K H (.bl x) (.type "bool")
  | int (i : Int) : TyOf K H (.int i) (.type "int")
  | str (x : Str) : TyOf K H (.str x) (.type "str")
  | flt (x : UInt64) : TyOf K H (.flt x) (.type "float")
  | lst {a : Addr} {xs : List V} (e : H a = some (.lst xs)) : TyOf K H (.ref a) (.type "list")
  | frz {a : Addr} {o : Obj} {xs : List V} (e : H a = some (.frz o (.lst xs))) : TyOf K H (.ref a) (.type "list")
  | tup {a : Addr} {xs : List V} (e : H a = some (.tup xs)) : TyOf K H (.ref a) (.type "tuple")
  | dK {a : Addr} {kvs : List (Key × V)} (e : H a = some (.dK kvs)) : TyOf K H (.ref a) (.type "dict")
  | dE {a : Addr} {kvs : List (Str × V)} {ep : Nat} (e : H a = some (.dE kvs ep)) : TyOf K H (.ref a) (.type "dict")
  | ins {a C dx : Addr} {fs : List (Str × V)} (e : H a = some (.ins C dx fs)) (cl : Cls K C) (ha : PySem.W.findIn K (.ref C) "__class__" = some (some (.builtin "object.__class__")))
      (hn : PySem.W.specialIn K (.builtin "object.__class__") "__get__" = some (some (.builtin "getset_descriptor.__get__"))) (htk : PySem.W.takesIn K (.builtin "object.__class__") = some true)
      (hm : PySem.W.mroIn K C (.type "object") = some true) : TyOf K H (.ref a) (.ref C)
theorem isinst_ok {x : V} {u t : Value} (I : Inv X pins σ H s) (rx : RelV x u) (ty : TyOf X.K H x t) (e : PySem.W.kitOne X.K t c = some b) (h : ∀ tk, Q (.bool b) { s with toks := tk }) :
    wpAny (model X.prog X.w) A (call (.builtin "isinstance") [u, c]) Q E s := by
  cases ty with
  | non => cases (show u = Value.none from rx); exact PySem.W.kia_one PySem.W.kitx_none I.kIn True.intro e (fun z => nomatch z) h
  | bl y => cases (show u = Value.bool y from rx); exact PySem.W.kia_one PySem.W.kitx_bool I.kIn True.intro e (fun z => nomatch z) h
  | int i => obtain ⟨t, q⟩ := (show ∃ t, u = Value.int i t from rx); cases q; exact PySem.W.kia_one PySem.W.kitx_int I.kIn True.intro e (fun z => nomatch z) h
  | str y => obtain ⟨t, q⟩ := (show ∃ t, u = Value.str y t from rx); cases q; exact PySem.W.kia_one PySem.W.kitx_str I.kIn True.intro e (fun z => nomatch z) h
  | flt y => obtain ⟨t, q⟩ := (show ∃ t, u = Value.float y t from rx); cases q; exact PySem.W.kia_one PySem.W.kitx_float I.kIn True.intro e (fun z => nomatch z) h
  | @lst a xs ea =>
    cases (show u = Value.ref a from rx)
    obtain ⟨_, _, n, _, h1⟩ := (show ObjOk X.prog X.w H s.heap a (.lst xs) from I.hok a _ ea)
    exact PySem.W.kia_one PySem.W.kitx_list I.kIn ⟨_, h1, rfl⟩ e (fun z => nomatch z) h
  | @frz a ob xs ea =>
    cases (show u = Value.ref a from rx)
    obtain ⟨_, _, _, n, _, h1⟩ := (show ObjOk X.prog X.w H s.heap a (.frz ob (.lst xs)) from I.hok a _ ea)
    exact PySem.W.kia_one PySem.W.kitx_list I.kIn ⟨_, h1, rfl⟩ e (fun z => nomatch z) h
  | @tup a xs ea =>
    cases (show u = Value.ref a from rx)
    obtain ⟨_, _, _, p⟩ := (show ObjOk X.prog X.w H s.heap a (.tup xs) from I.hok a _ ea)
    obtain ⟨o, h1, h2, _⟩ := p
    exact PySem.W.kia_one PySem.W.kitx_tuple I.kIn ⟨o, h1, h2⟩ e (fun z => nomatch z) h
  | @dK a kvs ea =>
    cases (show u = Value.ref a from rx)
    obtain ⟨_, _, vs, _, p⟩ := (show ObjOk X.prog X.w H s.heap a (.dK kvs) from I.hok a _ ea)
    obtain ⟨o, es, ep, h1, h2, _⟩ := p
    exact PySem.W.kia_one PySem.W.kitx_dict I.kIn ⟨o, h1, h2.1⟩ e (fun z => nomatch z) h
  | @dE a kvs ep ea =>
    cases (show u = Value.ref a from rx)
    obtain ⟨_, _, vs, _, o, es, h1, h2, _⟩ := (show ObjOk X.prog X.w H s.heap a (.dE kvs ep) from I.hok a _ ea)
    exact PySem.W.kia_one PySem.W.kitx_dict I.kIn ⟨o, h1, h2.1⟩ e (fun z => nomatch z) h
  | @ins a C dx fs ea cl ha hn htk hm =>
    cases (show u = Value.ref a from rx)
    obtain ⟨mA, O, _⟩ := ins_get I.hok ea
    obtain ⟨od, J, _⟩ := O.look
    exact PySem.W.kia_one (PySem.W.kitx_own (cl.get _) cl.hd ha hn htk hm) I.kIn J e (fun z => nomatch z) h
end
end L2
namespace L2
open PySem PySem.Spec PyProof.Rows
structure Room (k : Nat) (A : Around) : Prop where
  hd : A.handled = none
  dp : A.depth + 3 * k + 5 < recursionLimit
  un : A.units + 16 * k + 200 < cLine
theorem Room.mono {j k : Nat} {A : Around} (r : Room k A) (h : j ≤ k) : Room j A := ⟨r.hd, by have := r.dp; omega, by have := r.un; omega⟩
theorem Room.deeper {k : Nat} {A : Around} (r : Room (k + 1) A) (env : Env) : Room k (A.deeper env) :=
  ⟨r.hd, by have := r.dp; show A.depth + 1 + 3 * k + 5 < _; omega, by have := r.un; show A.units + 3 + 16 * k + 200 < _; omega⟩
theorem Room.in1 {k : Nat} {A : Around} (r : Room (k + 1) A) : Room k A.in1 :=
  ⟨r.hd, by have := r.dp; show A.depth + 3 * k + 5 < _; omega, by have := r.un; show A.units + 1 + 16 * k + 200 < _; omega⟩
theorem Room.depth {k : Nat} {A : Around} (r : Room k A) : A.depth < recursionLimit := by have := r.dp; omega
theorem Room.units {k : Nat} {A : Around} (r : Room k A) : A.units + 64 < cLine := by have := r.un; omega
def tNil : TA := fun _ H Q => Q [] H
def tCons (ta : TE) (tr : TA) : TA := fun σ H Q => ta σ H fun x H1 => tr σ H1 fun xs H2 => Q (x :: xs) H2
section
variable {X : Cx} {e : Expr} {es : List Expr} {te : TE} {t : TA} {pos : Pos}
theorem pa_nil : PA X [] tNil := fun _ _ _ _ H Q I h => Calls.spliced_nil ⟨[], H, I, .nil, h⟩
theorem pa_cons (ha : PE X e te) (hr : PA X es t) (hs : starEach (e :: es) X.env = (false, eval e X.env) :: starEach es X.env := by rfl) : PA X (e :: es) (tCons te t) := by
  intro pos pins s σ H Q I h
  rw [hs]
  show wpAny _ _ (spliced ((false, eval e X.env) :: backTo pos (starEach es X.env))) _ _ s
  refine Calls.spliced_cons (thn (ha pins s σ H _ I h) fun u s1 ⟨x, H1, I1, r1, q1⟩ => ?_)
  exact thn (hr pos pins s1 σ H1 _ I1 q1) fun us s2 ⟨xs, H2, I2, r2, q2⟩ => ⟨x :: xs, H2, I2, .cons r1 r2, q2⟩
def tTup (t : TA) : TE := fun σ H Q => t σ H fun xs H1 => xs.length ≤ sizeLine ∧ ∀ p, H1 p = none → Q (.ref p) (upd H1 p (.tup xs))
def tLst (t : TA) : TE := fun σ H Q => t σ H fun xs H1 => xs.length ≤ sizeLine ∧ ∀ p, H1 p = none → Q (.ref p) (upd H1 p (.lst xs))
theorem pe_tup {x1} (h : PA X es t) : PE X (.Tuple es x1 pos) (tTup t) := by
  intro pins s σ H Q I hq
  refine wpAny_Tuple_spliced (thn (h pos pins s σ H _ I hq) fun us s1 ⟨xs, H1, I1, r, z, q⟩ => ⟨by rw [← r.length]; exact z, ?_⟩)
  have hf : H1 s1.heap.objs.size = none := I1.hok.fresh (Nat.le_refl _)
  refine ⟨.ref s1.heap.objs.size, upd H1 s1.heap.objs.size (.tup xs), I1.laid (t' := s1.toks) (fun b u e => Heap.get?_push_of_some _ e) (Nat.le_refl _) ?_, rfl, q _ hf⟩
  exact ⟨z, us, r, ⟨_, Heap.get?_push_size _ rfl, rfl, _, rfl⟩⟩
theorem pe_lst (h : PA X es t) : PE X (.List es pos) (tLst t) := by
  intro pins s σ H Q I hq
  refine wpAny_List_spliced (thn (h pos pins s σ H _ I hq) fun us s1 ⟨xs, H1, I1, r, z, q⟩ => ⟨by rw [← r.length]; exact z, ?_⟩)
  have hf : H1 s1.heap.objs.size = none := I1.hok.fresh (Nat.le_refl _)
  refine ⟨.ref s1.heap.objs.size, upd H1 s1.heap.objs.size (.lst xs), I1.laid (t' := s1.toks) (fun b u e => Heap.get?_push_of_some _ e) (Nat.le_refl _) ?_, rfl, q _ hf⟩
  exact ⟨z, us, 0, r, Heap.get?_push_size _ rfl⟩
end
abbrev Sp := List V → Hp → VK → XK → Prop
abbrev CXT := List Env → Hp → Shared → XK → Value → Shared → Prop
structure Env0 (P : Program) (w : World) (K : PySem.W.Frag) (mg : Str → Option Value) (base : Heap) (A : Around) (outer : List Env) (s : Shared) (H : Hp) : Prop where
  frames : A.frames = some outer
  mod : Mod K mg base
  bs : ∀ b o, base.get? b = some o → s.heap.get? b = some o ∧ H b = none
  bsz : base.objs.size ≤ s.heap.objs.size
  funs : s.heap.FunFrames base outer
  frf : ∀ b ∈ frs outer, H b = none
  hok : HOk P w H s.heap
  bare : AllBare s.gens
def CE (outer : List Env) (P : Program) (w : World) (H : Hp) (s : Shared) (Q : VK) (u : Value) (s' : Shared) : Prop :=
  ∃ v H', s'.os = s.os ∧ AllBare s'.gens ∧ Un (frs outer) [] H H' s.heap s'.heap ∧ HOk P w H' s'.heap ∧ RelV v u ∧ Q v H'
def CR (CX : CXT) (outer : List Env) (P : Program) (w : World) (H : Hp) (s : Shared) (Q : VK) (E : XK) (r : Result) (s' : Shared) : Prop :=
  match r with
  | .ok (.ret u) => CE outer P w H s Q u s'
  | .ok _ => False
  | .error e => CX outer H s E e s'
structure FnOk (P : Program) (w : World) (K : PySem.W.Frag) (mg : Str → Option Value) (base : Heap) (CX : CXT) (k : Nat) (f : Addr) (fd : FuncData) (ps : List Str) (sp : Sp) : Prop where
  len : ∀ vs H Q E, sp vs H Q E → vs.length = ps.length
  run : ∀ (A : Around) (outer : List Env) (s : Shared) (H : Hp) (args : Args) (us : List Value) (vs : List V) (Q : VK) (E : XK), Room k A → Env0 P w K mg base A outer s H → BindsTo s fd args (ps.zip us) → Vals vs us → sp vs H Q E →
    codeAny (model P w) A (.call (.ref f) args) (CR CX outer P w H s Q E) s
theorem FnOk.mono {P : Program} {w : World} {K : PySem.W.Frag} {mg : Str → Option Value} {base : Heap} {CX : CXT} {j k : Nat} {f : Addr} {fd : FuncData} {ps : List Str} {sp : Sp} (F : FnOk P w K mg base CX j f fd ps sp) (h : j ≤ k) :
    FnOk P w K mg base CX k f fd ps sp := ⟨F.len, fun A outer s H args us vs Q E hr => F.run A outer s H args us vs Q E (hr.mono h)⟩
theorem FnOk.imp {P : Program} {w : World} {K : PySem.W.Frag} {mg : Str → Option Value} {base : Heap} {CX : CXT} {k : Nat} {f : Addr} {fd : FuncData} {ps : List Str} {sp sp' : Sp} (F : FnOk P w K mg base CX k f fd ps sp)
    (h : ∀ vs H Q E, sp' vs H Q E → sp vs H Q E) : FnOk P w K mg base CX k f fd ps sp' :=
  ⟨fun vs H Q E q => F.len vs H Q E (h _ _ _ _ q), fun A outer s H args us vs Q E hr he hb hv hs => F.run A outer s H args us vs Q E hr he hb hv (h _ _ _ _ hs)⟩
theorem Env0.in1 {P : Program} {w : World} {K : PySem.W.Frag} {mg : Str → Option Value} {base : Heap} {A : Around} {outer : List Env} {s : Shared} {H : Hp} (e : Env0 P w K mg base A outer s H) :
    Env0 P w K mg base A.in1 outer s H := ⟨e.frames, e.mod, e.bs, e.bsz, e.funs, e.frf, e.hok, e.bare⟩
section
variable {X : Cx} {pins : List (Addr × Obj)} {σ : St} {H : Hp} {s s' : Shared}
theorem Inv.env0 (I : Inv X pins σ H s) : Env0 X.prog X.w X.K X.mg X.base X.A X.stack s H :=
  ⟨I.ok.frames, I.ok.mod, I.bs, Nat.le_trans I.ok.bsz I.sz, I.stack, I.stkFree, I.hok, I.bare⟩
theorem Inv.after {Q : VK} {u : Value} (I : Inv X pins σ H s) (h : CE X.stack X.prog X.w H s Q u s') : EP X pins σ Q u s' := by
  obtain ⟨v, H', os, bare, un, hok, r, q⟩ := h
  obtain ⟨hh, g, d, t, os'⟩ := s'
  obtain rfl : os' = s.os := os
  exact ⟨v, H', I.call (h' := hh) (g' := g) (d' := d) (t' := t) (ch := []) un hok bare (fun b z => absurd z (by simp)), r, q⟩
end
def tCall (sp : Sp) (dvs : List V) (E : XK) (t : TA) : TE := fun σ H Q => t σ H fun vs H1 => sp (vs ++ dvs) H1 Q E
def Binds (K : PySem.W.Frag) (fd : FuncData) (ps : List Str) (ds : List Value) : Prop :=
  ∀ (s : Shared) (us : List Value), K.In s.heap → (us ++ ds).length = ps.length → BindsTo s fd ⟨us, []⟩ (ps.zip (us ++ ds))
theorem Binds.all {K : PySem.W.Frag} {fd : FuncData} {ps : List Str} (h : ∀ us : List Value, us.length = ps.length → bindArgs fd ⟨us, []⟩ = pure (ps.zip us)) : Binds K fd ps [] := fun s us _ hl => by
  rw [List.append_nil] at hl ⊢
  exact .of_eq (h us hl)
def Passes (CX : CXT) (X : Cx) (E : XK) : Prop := ∀ (pins : List (Addr × Obj)) (σ : St) (H : Hp) (s : Shared) (e : Value) (s' : Shared), Inv X pins σ H s → CX X.stack H s E e s' → X.xe e s'
section
variable {X : Cx} {CX : CXT} {k : Nat} {f C : Addr} {fd : FuncData} {ps : List Str} {sp : Sp} {dvs : List V} {ds : List Value} {E : XK} {x m : Str} {p pos apos : Pos} {e o : Expr} {es : List Expr} {ta : TE} {t : TA}
theorem run_fn {pins : List (Addr × Obj)} {σ : St} {H : Hp} {s : Shared} {Q : VK} {us : List Value} {vs : List V} (F : FnOk X.prog X.w X.K X.mg X.base CX k f fd ps sp) (hr : Room k X.A) (hb : Binds X.K fd ps ds) (hd : Vals dvs ds) (hx : Passes CX X E)
    (I : Inv X pins σ H s) (r : Vals vs us) (h : sp (vs ++ dvs) H Q E) : wpAny (model X.prog X.w) X.A (call (.ref f) us) (EP X pins σ Q) X.xe s := by
  have r2 : Vals (vs ++ dvs) (us ++ ds) := r.append hd
  have hl : (us ++ ds).length = ps.length := by rw [← r2.length]; exact F.len _ _ _ _ h
  refine wpAny_call (codeAny_mono (F.run X.A X.stack s H ⟨us, []⟩ (us ++ ds) (vs ++ dvs) Q E hr I.env0 (hb s us I.kIn hl) r2 h) fun r s' hq => ?_)
  cases r with
  | error e => exact hx pins σ H s e s' I hq
  | ok fl =>
    cases fl with
    | ret u => exact I.after hq
    | next => exact False.elim hq
    | brk => exact False.elim hq
    | cont => exact False.elim hq
theorem pe_call (F : FnOk X.prog X.w X.K X.mg X.base CX k f fd ps sp) (hr : Room k X.A) (hg : Gl X x) (hm : X.mg x = some (.ref f)) (hk : PySem.W.keepIn X.K (.ref f) = true) (hb : Binds X.K fd ps ds) (hd : Vals dvs ds) (hx : Passes CX X E)
    (ha : PA X (e :: es) t) (hdb : (x == ("__debug__" : Str)) = false := by decide) (he : starEach (e :: es) X.env = (false, eval e X.env) :: starEach es X.env := by rfl) (hpl : (backTo pos (starEach es X.env)).any (·.1) = false := by rfl) :
    PE X (.Call (.Name x p) (e :: es) [] pos) (tCall sp dvs E t) := by
  intro pins s σ H Q I h
  refine wpAny_Call_Name_kw (ld_glob I hg hm ?_ hdb)
  refine PySem.W.callWith_K (h₀ := X.base) I.ok.mod.kin hk (thn (ha pos pins s σ H _ I h) fun us s1 ⟨vs, H1, I1, r, q⟩ => ⟨I1.kIn, ?_⟩) he hpl
  exact run_fn F hr hb hd hx I1 r q
structure Mk (K : PySem.W.Frag) (C f : Addr) : Prop where
  makes : PySem.W.makesIn K C = true
  init : PySem.W.findIn K (.ref C) "__init__" = some (some (.ref f))
  fn : PySem.W.isFn K (.ref f) = true
  kp : PySem.W.keepIn K (.ref C) = true
end
section
variable {X : Cx} {CX : CXT} {k : Nat} {f C : Addr} {fd : FuncData} {ps ks : List Str} {sp : Sp} {E : XK} {x m : Str} {p pos apos kpos : Pos} {e o : Expr} {es : List Expr} {kws : List Keyword} {te ta : TE} {t tk : TA} {nm : Option Str}
variable {g : List Value → List Value → List Value} {gV : List V → List V → List V}
end
structure FnScope (N P : List Str) (sc : Scope) : Prop where
  kind : sc.kind = .function
  co : sc.isCoroutine = false
  gen : sc.isGenerator = false
  nd : N.Nodup
  pre : N.take P.length = P
  par : ∀ x ∈ P, sc.names.lookup x = some .local ∨ sc.names.lookup x = some .cell
  nofree : ∀ y ∈ sc.names, y.2 ≠ .free
theorem bindL_out {kindOf : Str → Option NameKind} {x : Str} : ∀ {binds : List (Str × Value)} {m : Str → Option Value}, (∀ v, (x, v) ∉ binds) → bindL kindOf binds m x = m x
  | [], _, _ => rfl
  | (n, v) :: r, m, h => by
    unfold bindL
    rw [bindL_out fun w hw => h w (List.mem_cons_of_mem _ hw)]
    split
    · have : x ≠ n := by rintro rfl; exact h v List.mem_cons_self
      simp [this]
    · rfl
theorem bindC_out {kindOf : Str → Option NameKind} {x : Str} : ∀ {binds : List (Str × Value)} {m : Str → Option Value}, (∀ v, (x, v) ∉ binds) → bindC kindOf binds m x = m x
  | [], _, _ => rfl
  | (n, v) :: r, m, h => by
    unfold bindC
    rw [bindC_out fun w hw => h w (List.mem_cons_of_mem _ hw)]
    split
    · rfl
    · have : x ≠ n := by rintro rfl; exact h v List.mem_cons_self
      simp [this]
theorem bindL_get {kindOf : Str → Option NameKind} {x : Str} {v : Value} : ∀ {P : List Str} {vs : List Value} {i : Nat} {m : Str → Option Value}, P.Nodup → P[i]? = some x → vs[i]? = some v → kindOf x = some .local →
    bindL kindOf (P.zip vs) m x = some v
  | [], _, _, _, _, h, _, _ => by simp at h
  | _ :: _, [], _, _, _, _, h, _ => by simp at h
  | p :: P, w :: vs, 0, m, nd, h1, h2, hk => by
    simp at h1 h2; subst h1; subst h2
    show bindL kindOf ((p, w) :: P.zip vs) m p = _
    unfold bindL
    rw [bindL_out fun v hv => (List.nodup_cons.mp nd).1 (List.of_mem_zip hv).1, if_pos hk]
    simp
  | p :: P, w :: vs, i + 1, m, nd, h1, h2, hk => by
    show bindL kindOf ((p, w) :: P.zip vs) m x = _
    unfold bindL
    exact bindL_get (i := i) (List.nodup_cons.mp nd).2 (by simpa using h1) (by simpa using h2) hk
theorem bindC_get {kindOf : Str → Option NameKind} {x : Str} {v : Value} : ∀ {P : List Str} {vs : List Value} {i : Nat} {m : Str → Option Value}, P.Nodup → P[i]? = some x → vs[i]? = some v → kindOf x ≠ some .local →
    bindC kindOf (P.zip vs) m x = some v
  | [], _, _, _, _, h, _, _ => by simp at h
  | _ :: _, [], _, _, _, _, h, _ => by simp at h
  | p :: P, w :: vs, 0, m, nd, h1, h2, hk => by
    simp at h1 h2; subst h1; subst h2
    show bindC kindOf ((p, w) :: P.zip vs) m p = _
    unfold bindC
    rw [bindC_out fun v hv => (List.nodup_cons.mp nd).1 (List.of_mem_zip hv).1, if_neg hk]
    simp
  | p :: P, w :: vs, i + 1, m, nd, h1, h2, hk => by
    show bindC kindOf ((p, w) :: P.zip vs) m x = _
    unfold bindC
    exact bindC_get (i := i) (List.nodup_cons.mp nd).2 (by simpa using h1) (by simpa using h2) hk
def start (N : List Str) (vs : List V) : St := vs.map some ++ List.replicate (N.length - vs.length) none
def cxOf (CX : CXT) (P : Program) (w : World) (K : PySem.W.Frag) (mg : Str → Option Value) (base : Heap) (N : List Str) (qual : Str) (scope : Scope) (f : Addr) (cd : Value) (A : Around) (outer : List Env) (s : Shared) (H : Hp) (E : XK) : Cx where
  prog := P
  w := w
  K := K
  mg := mg
  base := base
  A := A.deeper (envOfC qual scope s.heap.objs.size f cd)
  N := N
  s₀ := s
  H₀ := H
  env := envOfC qual scope s.heap.objs.size f cd
  outer := outer
  stack := envOfC qual scope s.heap.objs.size f cd :: outer
  ex := []
  calm := true
  fn := fun _ => true
  pn := []
  xe := fun e s' => wpAny (model P w) (A.deeper (envOfC qual scope s.heap.objs.size f cd)) (leaving (envOfC qual scope s.heap.objs.size f cd) e) (fun _ s'' => CX outer H s E e s'') (fun e' s'' => CX outer H s E e' s'') s'
theorem cell_has {sc : Scope} {n : Nat} {x : Str} (h : sc.names.lookup x = some .cell) : ∃ c, (cellsFrom n sc.names []).lookup x = some c := by
  have q := PySem.W.cellsFrom_some sc.names n [] (.inl h)
  exact Option.isSome_iff_exists.mp q
theorem inv_start {CX : CXT} {P : Program} {w : World} {K : PySem.W.Frag} {mg : Str → Option Value} {base : Heap} {N ps : List Str} {qual : Str} {scope : Scope} {f : Addr} {cd : Value} {A : Around} {outer : List Env} {s s1 : Shared} {H : Hp} {E : XK} {us : List Value} {vs : List V}
    (S : FnScope N ps scope) (hd : A.handled = none) (e0 : Env0 P w K mg base A outer s H) (hl : vs.length = ps.length) (r : Vals vs us)
    (x : InCallC s s.heap.objs.size (bindL (envOfC qual scope s.heap.objs.size f cd).kindOf (ps.zip us) fun _ => none) (cellsFrom (s.heap.objs.size + 1) scope.names []) (bindC (envOfC qual scope s.heap.objs.size f cd).kindOf (ps.zip us) fun _ => none) s1) :
    Inv (cxOf CX P w K mg base N qual scope f cd A outer s H E) [] (start N vs) H s1 := by
  have hpl : ps.length ≤ N.length := by have := congrArg List.length S.pre; rw [List.length_take] at this; omega
  obtain ⟨h1, tk, rfl, hk⟩ := x.done
  have noA : ∀ b : Addr, b ∉ (cxOf CX P w K mg base N qual scope f cd A outer s H E).ex := fun b z => absurd (show b ∈ ([] : List Addr) from z) (by simp)
  refine ⟨⟨e0.mod, S.kind, rfl, rfl, Nat.le_refl _, fun y z c h1 h2 => ?_, fun y hy => ?_, fun y c _ h => ?_, fun _ => hd, Around.frames_deeper e0.frames, .inr ⟨rfl, rfl⟩, fun b z => absurd z (noA b), e0.bs, e0.bsz, fun b _ _ => noA b, fun b z => absurd z (noA b), e0.funs, e0.frf⟩,
    rfl, e0.bare, Un.kept hk, ⟨_, x.toInCall.ns, fun i y v h1 h2 h3 => ?_⟩, fun y c h => ⟨_, x.cell y c h⟩, e0.hok.fresh (Nat.le_refl _), fun y c h => ?_, fun p hp => absurd (show p ∈ ([] : List (Addr × Obj)) from hp) (by simp), e0.hok.kept hk, ?_⟩
  · exact name_of_addr x.apart (PySem.mem_of_lookup h1) (PySem.mem_of_lookup h2)
  · have hy : scope.names.lookup y = some .cell ∨ scope.names.lookup y = some .free := hy
    rcases hy with hy | hy
    · exact cell_has hy
    · exact absurd rfl (S.nofree _ (PySem.mem_of_lookup hy))
  · exact Nat.le_of_lt (x.above y c (PySem.mem_of_lookup h))
  · have hi : i < vs.length := by
      unfold start at h2
      by_cases hi : i < vs.length
      · exact hi
      · rw [List.getElem?_append_right (by simpa using hi)] at h2
        rw [List.getElem?_replicate] at h2
        split at h2 <;> cases h2
    have ha : vs[i]? = some v := by
      unfold start at h2
      rw [List.getElem?_append_left (by simpa using hi), List.getElem?_map] at h2
      cases e : vs[i]? with
      | none => rw [e] at h2; cases h2
      | some a => rw [e] at h2; cases h2; rfl
    obtain ⟨u, hu, rv⟩ := r.get ha
    have hp : ps[i]? = some y := by
      rw [← S.pre, List.getElem?_take_of_lt (by omega)]; exact h1
    have ndP : ps.Nodup := by rw [← S.pre]; exact S.nd.sublist (List.take_sublist _ _)
    refine ⟨u, rv, ?_⟩
    rcases S.par y (List.mem_of_getElem? hp) with k | k
    · exact .inl ⟨k, bindL_get ndP hp hu k⟩
    · obtain ⟨c, e⟩ := cell_has (n := s.heap.objs.size + 1) k
      refine .inr ⟨.inl k, c, e, ?_⟩
      have q := x.cell y c e
      rw [bindC_get ndP hp hu (by show scope.names.lookup y ≠ _; rw [k]; decide)] at q
      exact q
  · exact e0.hok.fresh (Nat.le_of_lt (x.above y c (PySem.mem_of_lookup h)))
  · unfold start
    show _ = N.length
    rw [List.length_append, List.length_map, List.length_replicate]
    omega
theorem fn_of {CX : CXT} {P : Program} {w : World} {K : PySem.W.Frag} {mg : Str → Option Value} {base : Heap} {k : Nat} {f : Addr} {name qual : Str} {params : Arguments} {body : List Stmt} {scope : Scope} {dV kV doc pm cdv ct oc : Value} {an od : Option Addr}
    {osl : Array (Option Value)} {N ps : List Str} {sp : Sp} (lk : K.lookup f = some ⟨oc, od, .func (PySem.W.fnOf name qual params body scope dV kV doc pm an cdv ct), osl⟩) (hcd : PySem.W.codeIn K cdv qual = true) (S : FnScope N ps scope)
    (len : ∀ vs H Q E, sp vs H Q E → vs.length = ps.length)
    (hbody : ∀ (A : Around) (outer : List Env) (s : Shared) (H : Hp) (vs : List V) (Q : VK) (E : XK), Room k (A.deeper (envOfC qual scope s.heap.objs.size f cdv)) → sp vs H Q E →
      ∃ t, PSs (cxOf CX P w K mg base N qual scope f cdv A outer s H E) body t ∧ t { nx := fun _ H' => Q .non H', rt := Q } (start N vs) H) :
    FnOk P w K mg base CX (k + 1) f (PySem.W.fnOf name qual params body scope dV kV doc pm an cdv ct) ps sp := by
  refine ⟨len, fun A outer s H args us vs Q E hr e0 hb r hsp => ?_⟩
  have hl := len _ _ _ _ hsp
  have KX : K.In s.heap := e0.mod.kin.keeps fun b o e => (e0.bs b o e).1
  have lim : s.heap.NoLimit := e0.mod.nolimit.keeps fun b o e => (e0.bs b o e).1
  have hkind : ∀ y ∈ ps.zip us, scope.names.lookup y.1 = some .local ∨ (scope.names.lookup y.1 = some .cell ∧ ((cellsFrom (s.heap.objs.size + 1) scope.names []).lookup y.1).isSome = true) := fun ⟨n, v⟩ hy => by
    rcases S.par n (List.of_mem_zip hy).1 with q | q
    · exact .inl q
    · exact .inr ⟨q, PySem.W.cellsFrom_some _ _ _ (.inl q)⟩
  refine codeAny_call_function hr.depth (KX _ _ lk) rfl S.co S.gen rfl (PySem.W.codeRec_of KX hcd) (hb _ _ _ _ ?_)
  refine wpAny_newFunctionEnv_cells S.kind hkind fun env he s1 x => ?_
  subst he
  refine ⟨lim.keeps x.toInCall.keep, codeAny_func ?_⟩
  obtain ⟨t, ht, hq⟩ := hbody A outer s H vs Q E (hr.deeper _) hsp
  have I : Inv (cxOf CX P w K mg base N qual scope f cdv A outer s H E) [] (start N vs) H s1 := inv_start S hr.hd e0 hl r x
  refine wpAny_mono (ht [] s1 (start N vs) H _ I hq) (fun fl s' hs => ?_) fun e s' hs => hs
  have fin : ∀ {σ' : St} {H' : Hp} {v : V} {u : Value}, Inv (cxOf CX P w K mg base N qual scope f cdv A outer s H E) [] σ' H' s' → RelV v u → Q v H' → CE outer P w H s Q u s' :=
    fun {σ' H' v u} J rv q => ⟨v, H', J.os, J.bare, J.base, J.hok, rv, q⟩
  cases fl with
  | ret u =>
    obtain ⟨v, σ', H', J, rv, q⟩ := hs
    exact fin J rv q
  | next =>
    obtain ⟨σ', H', J, q⟩ := hs
    exact fin (v := V.non) (u := Value.none) J rfl q
  | brk =>
    obtain ⟨_, _, _, q⟩ := hs
    exact False.elim q
  | cont =>
    obtain ⟨_, _, _, q⟩ := hs
    exact False.elim q
end L2
namespace L2
open PySem PySem.Spec PyProof.Rows
section
variable {X : Cx} {x : Str} {p pos : Pos} {e : Expr} {es : List Expr} {t : TA} {id T : String} {r : List V → Hp → VK → Prop}
def tCB (r : List V → Hp → VK → Prop) (t : TA) : TE := fun σ H Q => t σ H fun vs H1 => r vs H1 Q
theorem pe_callB (hc : CallR X (.builtin id) r) (hg : Gl X x) (hm : X.mg x = none) (hv : bootBuiltins x = some (.builtin id)) (ha : PA X (e :: es) t) (hn : x ≠ "__name__" := by decide) (hdb : (x == ("__debug__" : Str)) = false := by decide)
    (he : starEach (e :: es) X.env = (false, eval e X.env) :: starEach es X.env := by rfl) (hpl : (backTo pos (starEach es X.env)).any (·.1) = false := by rfl) : PE X (.Call (.Name x p) (e :: es) [] pos) (tCB r t) := by
  intro pins s σ H Q I h
  refine wpAny_Call_Name_kw (ld_blt I hg hm hv ?_ hn hdb)
  exact PyProof.Rows.callWith_builtin1 (thn (ha pos pins s σ H _ I h) fun us s1 ⟨vs, H1, I1, r1, q1⟩ => hc pins s1 σ H1 vs us Q I1 r1 q1) he hpl
theorem pe_callTy (hc : CallR X (.type T) r) (hg : Gl X x) (hm : X.mg x = none) (hv : bootBuiltins x = some (.type T)) (ha : PA X (e :: es) t) (hn : x ≠ "__name__" := by decide) (hdb : (x == ("__debug__" : Str)) = false := by decide)
    (he : starEach (e :: es) X.env = (false, eval e X.env) :: starEach es X.env := by rfl) (hpl : (backTo pos (starEach es X.env)).any (·.1) = false := by rfl) : PE X (.Call (.Name x p) (e :: es) [] pos) (tCB r t) := by
  intro pins s σ H Q I h
  refine wpAny_Call_Name_kw (ld_blt I hg hm hv ?_ hn hdb)
  exact PyProof.Rows.callWith_type1 (thn (ha pos pins s σ H _ I h) fun us s1 ⟨vs, H1, I1, r1, q1⟩ => hc pins s1 σ H1 vs us Q I1 r1 q1) he hpl
end
end L2
namespace HT
open PySem PyProof.Rows
def lexLt : List Int → List Int → Bool
  | [], [] => false
  | [], _ :: _ => true
  | _ :: _, [] => false
  | x :: xs, y :: ys => if x = y then lexLt xs ys else decide (x < y)
section
open PySem.SeqAt
open PySem.AutoSeq1 (wpAny_loadPart')
open PySem.MeetsSeq PySem.MeetsSeq2 PySem.MeetsSeq3
end
section
variable {prog : Program} {w : World} {A : Around} {E : Value → Shared → Prop} {s : Shared}
def sIx (n d : Nat) : Option Int → Nat
  | none => d
  | some v => if v < 0 then (v + (n : Int)).toNat else min v.toNat n
theorem sIx_none (n d : Nat) : sIx n d none = d := rfl
theorem sIx_nat (n d k : Nat) : sIx n d (some (k : Int)) = min k n := by
  show (if (k : Int) < 0 then ((k : Int) + (n : Int)).toNat else min (k : Int).toNat n) = min k n
  rw [if_neg (by omega), Int.toNat_natCast]
end
end HT
namespace L2
open PySem PySem.Spec PyProof.Rows
abbrev TO := St → Hp → (Option Int → Hp → Prop) → Prop
def PO (X : Cx) (e : Option Expr) (t : TO) : Prop :=
  ∀ (pins : List (Addr × Obj)) (s : Shared) (σ : St) (H : Hp) (Q : Option Int → Hp → Prop), Inv X pins σ H s → t σ H Q →
    wpAny (model X.prog X.w) X.A (evalPart e X.env) (fun u s' => ∃ o H', Inv X pins σ H' s' ∧ IsPart u o ∧ Q o H') X.xe s
def tNoPart : TO := fun _ H Q => Q none H
def tPart (t : TE) : TO := fun σ H Q => t σ H fun x H1 => ∃ i, x = .int i ∧ Q (some i) H1
theorem intsAre_of {ns : List Int} : ∀ {us : List Value}, Vals (ns.map V.int) us → IntsAre us ns := by
  induction ns with
  | nil => intro us r; rw [List.map_nil] at r; cases r; exact .nil
  | cons n ns ih =>
    intro us r
    rw [List.map_cons] at r
    cases r with
    | cons r1 r2 =>
      obtain ⟨t, e⟩ := r1
      subst e
      exact .cons n t (ih r2)
section
variable {X : Cx} {e : Expr} {te : TE} {lo hi : Option Expr} {tl th : TO} {pos p2 : Pos}
theorem po_none : PO X none tNoPart := by
  intro pins s σ H Q I h
  rw [evalPart_none]
  exact wpAny_pure ⟨none, H, I, .none, h⟩
theorem po_some (h : PE X e te) : PO X (some e) (tPart te) := by
  intro pins s σ H Q I hw
  rw [evalPart_some]
  refine thn (h pins s σ H _ I hw) fun u s1 ⟨x, H1, I1, r1, q1⟩ => ?_
  obtain ⟨i, rfl, q⟩ := q1
  obtain ⟨t, rfl⟩ := r1
  exact ⟨some i, H1, I1, .int i t, q⟩
def SlR (X : Cx) (r : V → Option Int → Option Int → Hp → VK → Prop) : Prop :=
  ∀ (pins : List (Addr × Obj)) (s : Shared) (σ : St) (H : Hp) (x : V) (v vl vu : Value) (lo hi : Option Int) (sl : Addr) (Q : VK), Inv X pins σ H s → RelV x v → s.heap.IsSliceOf sl vl vu .none → IsPart vl lo → IsPart vu hi → r x lo hi H Q →
    ∃ T id, typeLookup (.type T) "__getitem__" = pure (some (.builtin id)) ∧ s.TypeIs v T ∧ wpAny (model X.prog X.w) X.A (getItem v (.ref sl)) (EP X pins σ Q) X.xe s
theorem SlR.or {r r' : V → Option Int → Option Int → Hp → VK → Prop} (h : SlR X r) (h' : SlR X r') : SlR X (fun x lo hi H Q => r x lo hi H Q ∨ r' x lo hi H Q) := by
  intro pins s σ H x v vl vu lo hi sl Q I rx hs pl pu q
  rcases q with q | q
  · exact h pins s σ H x v vl vu lo hi sl Q I rx hs pl pu q
  · exact h' pins s σ H x v vl vu lo hi sl Q I rx hs pl pu q
def tSl (r : V → Option Int → Option Int → Hp → VK → Prop) (te : TE) (tl th : TO) : TE := fun σ H Q => te σ H fun x H1 => tl σ H1 fun l H2 => th σ H2 fun u H3 => r x l u H3 Q
theorem pe_slice {r : V → Option Int → Option Int → Hp → VK → Prop} (hr : SlR X r) (he : PE X e te) (hl : PO X lo tl) (hu : PO X hi th) : PE X (.Subscript e (.Slice lo hi none p2) pos) (tSl r te tl th) := by
  intro pins s σ H Q I h
  refine Subscript_ (thn (he pins s σ H _ I h) fun v s1 ⟨x, H1, I1, r1, q1⟩ => ?_)
  refine wpAny_Slice (thn (hl pins s1 σ H1 _ I1 q1) fun vl s2 ⟨l, H2, I2, pl, q2⟩ => thn (hu pins s2 σ H2 _ I2 q2) fun vu s3 ⟨u, H3, I3, pu, q3⟩ => ?_)
  rw [evalPart_none]
  refine wpAny_pure ?_
  have I4 : Inv X pins σ H3 { s3 with heap := s3.heap.push { cls := .type "slice", data := .fields #[vl, vu, .none] } } := I3.kept (t' := s3.toks) fun b ob q => Heap.get?_push_of_some _ q
  obtain ⟨T, id, hT, ht, hg⟩ := hr pins { s3 with heap := s3.heap.push { cls := .type "slice", data := .fields #[vl, vu, .none] } } σ H3 x v vl vu l u s3.heap.objs.size Q I4 r1 (Heap.IsSliceOf.new ..) pl pu q3
  show wpAny (model X.prog X.w) X.A (subscriptTail e (.Slice lo hi none p2) v (.ref s3.heap.objs.size)) (EP X pins σ Q) X.xe { s3 with heap := s3.heap.push { cls := .type "slice", data := .fields #[vl, vu, .none] } }
  exact tail_any (ops := [.ref s3.heap.objs.size, v]) ht hT hg (by with_unfolding_all rfl)
def cutV (xs : List V) (lo hi : Option Int) : List V := (xs.drop (HT.sIx xs.length 0 lo)).take (HT.sIx xs.length xs.length hi - HT.sIx xs.length 0 lo)
theorem cutV_length (xs : List V) (lo hi : Option Int) : (cutV xs lo hi).length ≤ xs.length := by
  unfold cutV
  rw [List.length_take, List.length_drop]
  omega
end
end L2
namespace L2
open PySem PySem.Spec PyProof.Rows
def ixN (n : Nat) (i : Int) : Option Nat := if 0 ≤ i then (if i < n then some i.toNat else none) else if -(n : Int) ≤ i then some (i + n).toNat else none
def atI {α : Type} (xs : List α) (i : Int) : Option α := (ixN xs.length i).bind fun j => xs[j]?
theorem ixN_seq {n : Nat} {i : Int} {j : Nat} (h : ixN n i = some j) : seqIndex? i n = some j ∧ j < n ∧ -(n : Int) ≤ i ∧ i < n := by
  unfold ixN at h
  by_cases h0 : 0 ≤ i
  · rw [if_pos h0] at h
    by_cases h1 : i < n
    · rw [if_pos h1] at h
      have e : i.toNat = j := Option.some.inj h
      exact ⟨by rw [seqIndex_of h0 h1, e], by omega, by omega, h1⟩
    · rw [if_neg h1] at h; cases h
  · rw [if_neg h0] at h
    by_cases h1 : -(n : Int) ≤ i
    · rw [if_pos h1] at h
      have e : (i + n).toNat = j := Option.some.inj h
      exact ⟨by rw [seqIndex_neg (by omega) h1, e], by omega, h1, by omega⟩
    · rw [if_neg h1] at h; cases h
theorem atI_get {α : Type} {xs : List α} {i : Int} {v : α} (h : atI xs i = some v) : ∃ j, seqIndex? i xs.length = some j ∧ xs[j]? = some v ∧ j < xs.length ∧ -(xs.length : Int) ≤ i ∧ i < xs.length := by
  unfold atI at h
  cases e : ixN xs.length i with
  | none => rw [e] at h; cases h
  | some j =>
    rw [e] at h
    obtain ⟨h1, h2, h3, h4⟩ := ixN_seq e
    exact ⟨j, h1, h, h2, h3, h4⟩
theorem atI_nat {α : Type} {xs : List α} {j : Nat} {v : α} (h : xs[j]? = some v) : atI xs (j : Int) = some v := by
  have hj : j < xs.length := (List.getElem?_eq_some_iff.mp h).1
  have e : ixN xs.length (j : Int) = some j := by
    unfold ixN
    rw [if_pos (by omega), if_pos (by omega)]; simp
  unfold atI; rw [e]; exact h
def PlainIx (b : Expr) : Prop := ∀ o i, subscripted b false o i = operate [o, i] (getItem o i)
def IxR (X : Cx) (r : R2) : Prop :=
  ∀ (value slice : Expr) (pins : List (Addr × Obj)) (s : Shared) (σ : St) (H : Hp) (x y : V) (v u : Value) (Q : VK), Inv X pins σ H s → RelV x v → RelV y u → r x y H Q →
    subscripted slice false v u = operate [v, u] (getItem v u) → wpAny (model X.prog X.w) X.A (subscriptTail value slice v u) (EP X pins σ Q) X.xe s
def MtR (X : Cx) (id : String) (r : V → List V → Hp → VK → Prop) : Prop :=
  ∀ (pins : List (Addr × Obj)) (s : Shared) (σ : St) (H : Hp) (x : V) (xs : List V) (v : Value) (us : List Value) (Q : VK), Inv X pins σ H s → RelV x v → Vals xs us → r x xs H Q →
    wpAny (model X.prog X.w) X.A (call (.builtin id) (v :: us)) (EP X pins σ Q) X.xe s
section
variable {X : Cx} {a b : Expr} {ta tb : TE} {pos : Pos}
theorem IxR.or {r r' : R2} (h : IxR X r) (h' : IxR X r') : IxR X (fun x y H Q => r x y H Q ∨ r' x y H Q) := by
  intro value slice pins s σ H x y v u Q I rx ry q hs
  rcases q with q | q
  · exact h value slice pins s σ H x y v u Q I rx ry q hs
  · exact h' value slice pins s σ H x y v u Q I rx ry q hs
theorem MtR.or {id : String} {r r' : V → List V → Hp → VK → Prop} (h : MtR X id r) (h' : MtR X id r') : MtR X id (fun x xs H Q => r x xs H Q ∨ r' x xs H Q) := by
  intro pins s σ H x xs v us Q I rx rs q
  rcases q with q | q
  · exact h pins s σ H x xs v us Q I rx rs q
  · exact h' pins s σ H x xs v us Q I rx rs q
theorem pe_ix {r : R2} (hr : IxR X r) (ha : PE X a ta) (hb : PE X b tb) (hs : PlainIx b) : PE X (.Subscript a b pos) (tOp r ta tb) := by
  intro pins s σ H Q I h
  exact Subscript_ (binT ha hb I h fun v u s2 x y H2 I2 rx ry q => hr a b pins s2 σ H2 x y v u Q I2 rx ry q (hs _ _))
def rIxL (K : PySem.W.Frag) : R2 := fun x y H Q => ∃ p xs i v, x = .ref p ∧ y = .int i ∧ SqL K H p xs ∧ atI xs i = some v ∧ Q v H
def rIxT (K : PySem.W.Frag) : R2 := fun x y H Q => ∃ p xs i v, x = .ref p ∧ y = .int i ∧ SqT K H p xs ∧ atI xs i = some v ∧ Q v H
def rIxS : R2 := fun x y H Q => ∃ z i c, x = .str z ∧ y = .int i ∧ z.length ≤ sizeLine ∧ atI z.cps.toList i = some c ∧ Q (.str ⟨#[c]⟩) H
theorem ix_list : IxR X (rIxL X.K) := by
  intro value slice pins s σ H x y v u Q I rx ry h hs
  obtain ⟨p, xs, i, z, rfl, rfl, hq, he, q⟩ := h
  cases rx
  obtain ⟨t, rfl⟩ := ry
  obtain ⟨its, r, pl, hz⟩ := I.list hq
  obtain ⟨j, h1, h2, h3, h4, h5⟩ := atI_get he
  obtain ⟨w, ew, rw'⟩ := r.get h2
  have hl := r.length
  have hn := line63
  have fin : EP X pins σ Q w s := ⟨z, H, I, rw', q⟩
  by_cases h0 : 0 ≤ i
  · have hj : i.toNat = j := by
      rw [seqIndex_of h0 h5] at h1
      exact Option.some.inj h1
    exact item_listR pl.isList h0 (by omega) (by rw [hj]; simpa using ew) fin hs
  · have hj : (i + (its.toArray.size : Int)).toNat = j := by
      rw [seqIndex_neg (by omega) h4] at h1
      rw [List.size_toArray, ← hl]
      exact Option.some.inj h1
    exact subscriptTail_builtinR (x := w) pl.isList.typeIs slot_list_getitem.lookup
      (wpAny_getItem_list_neg (Q := fun r s' => r = w ∧ EP X pins σ Q r s') pl.isList (by omega) (by rw [List.size_toArray] <;> omega) (by omega) (by rw [hj]; simpa using ew) ⟨rfl, fin⟩) hs
theorem ix_tup : IxR X (rIxT X.K) := by
  intro value slice pins s σ H x y v u Q I rx ry h hs
  obtain ⟨p, xs, i, z, rfl, rfl, hq, he, q⟩ := h
  cases rx
  obtain ⟨t, rfl⟩ := ry
  obtain ⟨its, r, pl, hz⟩ := I.tuple hq
  obtain ⟨j, h1, h2, h3, h4, h5⟩ := atI_get he
  obtain ⟨w, ew, rw'⟩ := r.get h2
  have hl := r.length
  have hn := line63
  have fin : EP X pins σ Q w s := ⟨z, H, I, rw', q⟩
  exact subscriptTail_builtinR (x := w) pl.typeIs slot_tuple_getitem.lookup
    (getItem_tuple (j := j) (Q := fun r s' => r = w ∧ EP X pins σ Q r s') pl (by omega) (by omega) (by rw [List.size_toArray, ← hl]; exact h1) (by simpa using ew) ⟨rfl, fin⟩) hs
theorem ix_str : IxR X rIxS := by
  intro value slice pins s σ H x y v u Q I rx ry h hs
  obtain ⟨z, i, c, rfl, rfl, hz, he, q⟩ := h
  obtain ⟨t, rfl⟩ := rx
  obtain ⟨t', rfl⟩ := ry
  obtain ⟨j, h1, h2, h3, h4, h5⟩ := atI_get he
  have hl : z.cps.toList.length = z.length := by simp [Str.length]
  rw [hl] at h1 h4 h5
  have hn := line63
  exact tail_any (typeIs_str s z t) slot_str_getitem.lookup (getItem_str (c := c) (by
    have e1 : decide (i < -(2 ^ 63 : Int)) = false := decide_eq_false (by omega)
    have e2 : decide (i ≥ 2 ^ 63) = false := decide_eq_false (by omega)
    rw [e1, e2, Bool.or_false]) (by rw [h1]; simpa using h2) ⟨.str ⟨#[c]⟩, H, I.tok _, ⟨_, rfl⟩, q⟩) hs
theorem mapSeq_set (its : List Value) (n j : Nat) (u : Value) : Obj.mapSeq (·.setIfInBounds j u) { cls := .type "list", data := .seq its.toArray n } = { cls := .type "list", data := .seq (its.set j u).toArray n } := by
  simp [Obj.mapSeq]
theorem Inv.lst {pins : List (Addr × Obj)} {σ : St} {H : Hp} {s : Shared} {p : Addr} {xs : List V} (I : Inv X pins σ H s) (h : H p = some (.lst xs)) :
    ∃ (its : List Value) (n : Nat), Vals xs its ∧ s.heap.get? p = some { cls := .type "list", data := .seq its.toArray n } ∧ xs.length ≤ sizeLine := by
  obtain ⟨z, its, n, r, e⟩ := I.hok p _ h
  exact ⟨its, n, r, e, z⟩
theorem Inv.lstUpd {pins : List (Addr × Obj)} {σ : St} {H : Hp} {s : Shared} {p : Addr} {xs ys : List V} {its its' : List Value} {n n' : Nat} {f : Obj → Obj} (I : Inv X pins σ H s) (h : H p = some (.lst xs))
    (ho : s.heap.get? p = some { cls := .type "list", data := .seq its.toArray n }) (hf : f { cls := .type "list", data := .seq its.toArray n } = { cls := .type "list", data := .seq its'.toArray n' }) (r : Vals ys its') (hz : ys.length ≤ sizeLine) (t : Nat) :
    Inv X pins σ (upd H p (.lst ys)) { s with heap := s.heap.update p f, toks := t } := by
  have e : (s.heap.update p f).get? p = some { cls := .type "list", data := .seq its'.toArray n' } := by
    rw [Heap.get?_update_self f ho (by rw [hf] <;> rfl), hf]
  refine I.write (x := p) (e := p) (by rw [h]; trivial) (.inl rfl) (fun b u hb q => (Heap.get?_update_other _ _ (Ne.symm hb)).trans q) ⟨_, e⟩ ?_
  exact ⟨hz, its', n', r, e⟩
def rSetL : V → V → V → Hp → (Hp → Prop) → Prop := fun o i v H Q => ∃ p xs k j, o = .ref p ∧ i = .int k ∧ H p = some (.lst xs) ∧ ixN xs.length k = some j ∧ Q (upd H p (.lst (xs.set j v)))
theorem set_list : PSet X rSetL := by
  intro pins s σ H o i v ov iv u Q I ro ri rv h
  obtain ⟨p, xs, k, j, rfl, rfl, hp, hj, q⟩ := h
  cases ro
  obtain ⟨t, rfl⟩ := ri
  obtain ⟨its, n, r, ho, hz⟩ := I.lst hp
  obtain ⟨h1, h2, h3, h4⟩ := ixN_seq hj
  have hl := r.length
  have hn := line63
  have I' : Inv X pins σ (upd H p (.lst (xs.set j v))) { s with heap := s.heap.update p (Obj.mapSeq (·.setIfInBounds j u)) } :=
    I.lstUpd hp ho (mapSeq_set its n j u) (r.set rv j) (by rw [List.length_set]; exact hz) s.toks
  by_cases h0 : 0 ≤ k
  · have hk : k.toNat = j := by
      rw [seqIndex_of h0 h4] at h1
      exact Option.some.inj h1
    exact PySem.W.ki_setAt ho h0 (by omega) (by rw [List.size_toArray, ← hl]; exact h4) (by rw [hk]; exact ⟨_, I', q⟩)
  · have hk : (k + (its.toArray.size : Int)).toNat = j := by
      rw [seqIndex_neg (by omega) h3] at h1
      rw [List.size_toArray, ← hl]
      exact Option.some.inj h1
    exact PySem.W.ki_setBack ho (by omega) (by rw [List.size_toArray, ← hl]; exact h3) (by omega) (by rw [hk]; exact ⟨_, I', q⟩)
theorem slice_bounds (lo hi : Option Int) (n : Nat) : (sliceBounds lo hi none n).1 = ((HT.sIx n 0 lo : Nat) : Int) ∧ (sliceBounds lo hi none n).2.1 = ((HT.sIx n n hi : Nat) : Int) ∧ (sliceBounds lo hi none n).2.2 = 1 := by
  refine ⟨?_, ?_, rfl⟩
  · cases lo with
    | none => simp [sliceBounds, HT.sIx]
    | some i =>
      simp only [sliceBounds, HT.sIx, Option.getD_none, show (1 : Int) > 0 by decide, if_true]
      by_cases h : i < 0
      · simp only [h, if_true] <;> omega
      · simp only [h, if_false] <;> omega
  · cases hi with
    | none => simp [sliceBounds, HT.sIx]
    | some i =>
      simp only [sliceBounds, HT.sIx, Option.getD_none, show (1 : Int) > 0 by decide, if_true]
      by_cases h : i < 0
      · simp only [h, if_true] <;> omega
      · simp only [h, if_false] <;> omega
theorem slicePick_cut (its : List Value) (lo hi : Option Int) : slicePick its.toArray lo hi none = ((its.drop (HT.sIx its.length 0 lo)).take (HT.sIx its.length its.length hi - HT.sIx its.length 0 lo)).toArray := by
  obtain ⟨h1, h2, h3⟩ := slice_bounds lo hi its.toArray.size
  unfold slicePick
  rw [h1, h2, h3]
  simp only [sliceRange_one, pick_run, List.size_toArray] <;> rfl
def rSlL (K : PySem.W.Frag) : V → Option Int → Option Int → Hp → VK → Prop := fun x lo hi H Q => ∃ a xs, x = .ref a ∧ SqL K H a xs ∧ ∀ p, H p = none → Q (.ref p) (upd H p (.lst (cutV xs lo hi)))
theorem sl_list : SlR X (rSlL X.K) := by
  intro pins s σ H x v vl vu lo hi sl Q I rx hs pl pu h
  obtain ⟨a, xs, rfl, hx, q⟩ := h
  cases rx
  obtain ⟨its, r, ht, hz⟩ := I.list hx
  have hlen := r.length
  refine ⟨"list", _, slot_list_getitem.lookup, ht.isList.typeIs, ?_⟩
  refine wpAny_getItem_list_slice ht.isList hs pl pu .none (by simp) ?_ (by rw [List.size_toArray] <;> omega)
  rw [slicePick_cut, ← hlen]
  refine ⟨.ref s.heap.objs.size, _, I.laid (t' := s.toks) (o := .lst (cutV xs lo hi)) (fun b ob q => Heap.get?_push_of_some _ q) (Nat.le_refl _) ?_, rfl, q _ (I.hok.fresh (Nat.le_refl _))⟩
  exact ⟨Nat.le_trans (cutV_length xs lo hi) hz, _, 0, (r.drop (HT.sIx xs.length 0 lo)).take (HT.sIx xs.length xs.length hi - HT.sIx xs.length 0 lo), Heap.get?_push_size _ rfl⟩
theorem call_len_seq : CallR X (.builtin "len") (fun xs H Q => ∃ p ys, xs = [.ref p] ∧ (SqL X.K H p ys ∨ SqT X.K H p ys) ∧ Q (.int ys.length) H) := by
  intro pins s σ H xs us Q I r h
  obtain ⟨p, ys, rfl, hq, q⟩ := h
  obtain ⟨u, rfl, rx⟩ := vals1 r
  cases rx
  have hn := line63
  rcases hq with hq | hq
  · obtain ⟨its, r', pl, hz⟩ := I.list hq
    have hlen := r'.length
    exact Calls.call_len_list pl.isList (by simp only [List.size_toArray] <;> omega) ⟨.int ys.length, H, I.tok _, ⟨s.toks + 1, by rw [List.size_toArray, hlen]⟩, q⟩
  · obtain ⟨its, r', pl, hz⟩ := I.tuple hq
    have hlen := r'.length
    exact len_tuple pl (by simp only [List.size_toArray] <;> omega) ⟨.int ys.length, H, I.tok _, ⟨s.toks + 1, by rw [List.size_toArray, hlen]⟩, q⟩
theorem call_len_str : CallR X (.builtin "len") (fun xs H Q => ∃ z, xs = [.str z] ∧ z.length ≤ sizeLine ∧ Q (.int z.length) H) := by
  intro pins s σ H xs us Q I r h
  obtain ⟨z, rfl, hz, q⟩ := h
  obtain ⟨u, rfl, t, rfl⟩ := vals1 r
  have hn := line63
  exact len_str (by omega) ⟨.int z.length, H, I.tok _, ⟨_, rfl⟩, q⟩
theorem CallR.or {f : Value} {r r' : List V → Hp → VK → Prop} (h : CallR X f r) (h' : CallR X f r') : CallR X f (fun xs H Q => r xs H Q ∨ r' xs H Q) := by
  intro pins s σ H xs us Q I rs q
  rcases q with q | q
  · exact h pins s σ H xs us Q I rs q
  · exact h' pins s σ H xs us Q I rs q
theorem call_list_of : CallR X (.type "list") (fun xs H Q => ∃ p ys, xs = [.ref p] ∧ (SqL X.K H p ys ∨ SqT X.K H p ys) ∧ ∀ l, H l = none → Q (.ref l) (upd H l (.lst ys))) := by
  intro pins s σ H xs us Q I r h
  obtain ⟨p, ys, rfl, hq, q⟩ := h
  obtain ⟨u, rfl, rx⟩ := vals1 r
  cases rx
  have fin : ∀ (its : List Value), Vals ys its → ys.length ≤ sizeLine → ∀ (h' : Heap) (c' : Nat), (∀ b o', s.heap.get? b = some o' → h'.get? b = some o') →
      h'.get? s.heap.objs.size = some { cls := .type "list", dict := none, data := .seq its.toArray c', slots := #[] } → EP X pins σ Q (.ref s.heap.objs.size) { s with heap := h' } := fun its r' hz h' c' kp e =>
    ⟨.ref s.heap.objs.size, _, I.laid (t' := s.toks) kp (Nat.le_refl _) (show ObjOk X.prog X.w _ h' _ (.lst ys) from ⟨hz, its, c', r', e⟩), rfl, q _ (I.hok.fresh (Nat.le_refl _))⟩
  rcases hq with hq | hq
  · obtain ⟨its, r', pl, hz⟩ := I.list hq
    have hlen := r'.length
    obtain ⟨o, ho, hc, n, hd⟩ := pl.isList
    exact call_list_seq p (.inl rfl) ho hc hd (fun h' c' kp e => fin its r' hz h' c' kp e) (by simp only [List.size_toArray] <;> omega)
  · obtain ⟨its, r', pl, hz⟩ := I.tuple hq
    have hlen := r'.length
    obtain ⟨o, ho, hc, n, hd⟩ := pl
    exact call_list_seq p (.inr rfl) ho hc hd (fun h' c' kp e => fin its r' hz h' c' kp e) (by simp only [List.size_toArray] <;> omega)
theorem call_tuple_of : CallR X (.type "tuple") (fun xs H Q => ∃ p ys, xs = [.ref p] ∧ ((SqL X.K H p ys ∧ ∀ l, H l = none → Q (.ref l) (upd H l (.tup ys))) ∨ (SqT X.K H p ys ∧ Q (.ref p) H))) := by
  intro pins s σ H xs us Q I r h
  obtain ⟨p, ys, rfl, h⟩ := h
  obtain ⟨u, rfl, rx⟩ := vals1 r
  cases rx
  rcases h with ⟨hq, q⟩ | ⟨hq, q⟩
  · obtain ⟨its, r', pl, hz⟩ := I.list hq
    have hlen := r'.length
    refine call_tuple_list pl.isList (fun h' kp => ?_) (by simp only [List.size_toArray] <;> omega)
    have I1 : Inv X pins σ H { s with heap := h' } := I.kept (t' := s.toks) kp
    have I2 : Inv X pins σ (upd H h'.objs.size (.tup ys)) { s with heap := h'.push { cls := .type "tuple", data := .seq its.toArray } } :=
      I1.laid (t' := s.toks) (fun b o e => Heap.get?_push_of_some _ e) (Nat.le_refl _) (show ObjOk X.prog X.w _ _ _ (.tup ys) from ⟨hz, its, r', IsTup.new _ _⟩)
    exact ⟨.ref h'.objs.size, _, I2, rfl, q _ (I1.hok.fresh (Nat.le_refl _))⟩
  · obtain ⟨its, r', pl, hz⟩ := I.tuple hq
    exact call_tuple_same pl ⟨.ref p, H, I, rfl, q⟩
def tyV (K : PySem.W.Frag) (T : String) (x : V) (H : Hp) : Prop := match x with
  | .str _ => T = "str"
  | .int _ => T = "int"
  | .ref p => (T = "list" ∧ ∃ xs, SqL K H p xs) ∨ (T = "tuple" ∧ ∃ o, K.lookup p = some o ∧ o.cls = .type "tuple" ∧ o.dict = none) ∨
      (T = "dict" ∧ ((∃ kvs, H p = some (.dK kvs)) ∨ ∃ kvs ep, H p = some (.dE kvs ep))) ∨ (T = "set" ∧ ∃ S n, H p = some (.set S n))
  | _ => False
theorem tyV_is {pins : List (Addr × Obj)} {σ : St} {H : Hp} {s : Shared} {T : String} {x : V} {v : Value} (I : Inv X pins σ H s) (r : RelV x v) (ty : tyV X.K T x H) :
    s.TypeIs v T ∧ ∀ a, v = .ref a → ∃ ob, s.heap.get? a = some ob ∧ ob.dict = none := by
  cases x with
  | str z =>
    obtain ⟨t, rfl⟩ := r
    cases (show T = "str" from ty)
    exact ⟨typeIs_str s z t, fun _ e => nomatch e⟩
  | int i =>
    obtain ⟨t, rfl⟩ := r
    cases (show T = "int" from ty)
    exact ⟨typeIs_int s i t, fun _ e => nomatch e⟩
  | ref p =>
    cases r
    rcases ty with ⟨rfl, xs, hq⟩ | ⟨rfl, o, hk, hc, hd⟩ | ⟨rfl, hk⟩ | ⟨rfl, S, n, hk⟩
    · obtain ⟨its, _, pl, _⟩ := I.list hq
      refine ⟨pl.isList.typeIs, fun a e => ?_⟩
      cases e
      obtain ⟨o, n, e, c, hd, _⟩ := pl
      exact ⟨o, e, hd⟩
    · refine ⟨⟨o, I.kIn p o hk, hc⟩, fun a e => ?_⟩
      cases e
      exact ⟨o, I.kIn _ o hk, hd⟩
    · have z : ∃ o, s.heap.get? p = some o ∧ o.ExactDict := by
        rcases hk with ⟨kvs, hk⟩ | ⟨kvs, ep, hk⟩
        · obtain ⟨_, _, _, _, o, _, _, e, ex, _⟩ := I.hok p _ hk
          exact ⟨o, e, ex⟩
        · obtain ⟨_, _, _, _, o, _, e, ex, _⟩ := I.hok p _ hk
          exact ⟨o, e, ex⟩
      obtain ⟨o, e, ex⟩ := z
      refine ⟨⟨o, e, ex.1⟩, fun a e2 => ?_⟩
      cases e2
      exact ⟨o, e, ex.2.1⟩
    · obtain ⟨o, _, _, _, e, ex, _⟩ := I.hok p _ hk
      refine ⟨⟨o, e, ex.1⟩, fun a e2 => ?_⟩
      cases e2
      exact ⟨o, e, ex.2.1⟩
  | _ => exact False.elim ty
def tBM (K : PySem.W.Frag) (T : String) (r : V → List V → Hp → VK → Prop) (to : TE) (t : TA) : TE := fun σ H Q => to σ H fun x H1 => tyV K T x H1 ∧ t σ H1 fun xs H2 => r x xs H2 Q
variable {o e : Expr} {es : List Expr} {to : TE} {t : TA} {name : Str} {apos cpos : Pos} {T id : String} {r : V → List V → Hp → VK → Prop}
theorem pe_bm (pa : PlainAttrs T) (slot : Slot T name id) (hty : typeOf (.builtin id) = pure (.type "method_descriptor")) (hm : MtR X id r) (ho : PE X o to) (ha : PA X (e :: es) t)
    (hbase : attributeBase o name X.env (eval o X.env) = eval o X.env := by rfl)
    (hfew : ((backTo cpos (starEach (e :: es) X.env)).all (fun x => !x.1) && (backToKw cpos (keywordEach [] X.env)).all (fun x => x.1.isSome)
      && decide ((e :: es).length + ([] : List Keyword).length + (if ([] : List Keyword).isEmpty then 0 else 1) < 30)) = true := by rfl)
    (hline : (apos.endLine == cpos.line) = true := by rfl) (hs : starEach (e :: es) X.env = (false, eval e X.env) :: starEach es X.env := by rfl) (hplain : (backTo cpos (starEach es X.env)).any (·.1) = false := by rfl) :
    PE X (.Call (.Attribute o name apos) (e :: es) [] cpos) (tBM X.K T r to t) := by
  intro pins s σ H Q I h
  refine wpAny_Call_method_late hbase hfew hline rfl (thn (ho pins s σ H _ I h) fun v s1 ⟨x, H1, I1, r1, ty, q1⟩ => ?_)
  obtain ⟨h1, h2⟩ := tyV_is I1 r1 ty
  refine ⟨T, id, pa, slot, hty, h1, h2, ?_⟩
  have hA := ha cpos pins s1 σ H1 _ I1 q1
  rw [hs] at hA ⊢
  refine Calls.callWith_builtin (by show (false || (backTo cpos (starEach es X.env)).any (·.1)) = false; rw [hplain] <;> rfl) (Calls.evalArgs_plain ?_)
  exact thn hA fun us s2 ⟨vs, H2, I2, r2, q2⟩ => hm pins s2 σ H2 x vs v us Q I2 r1 r2 q2
end
end L2
namespace L2
open PySem PySem.Spec PyProof.Rows
def MtM (X : Cx) (id : String) (r : V → List V → Hp → VK → Prop) : Prop :=
  ∀ (pins : List (Addr × Obj)) (s : Shared) (σ : St) (H : Hp) (x : V) (xs : List V) (v : Value) (us : List Value) (Q : VK), Inv X pins σ H s → RelV x v → Vals xs us → r x xs H Q →
    wpAny (model X.prog X.w) X.A (call (.builtin id) (v :: us)) (EP X pins σ Q) X.xe s
theorem Vals.one {x : V} {us : List Value} (r : Vals [x] us) : ∃ u, us = [u] ∧ RelV x u := vals1 r
theorem Vals.two {x y : V} {us : List Value} (r : Vals [x, y] us) : ∃ u v, us = [u, v] ∧ RelV x u ∧ RelV y v := vals2 r
theorem Vals.zero : ∀ {us : List Value}, Vals [] us → us = []
  | _, .nil => rfl
theorem Vals.dropLast {xs : List V} {us : List Value} (h : Vals xs us) : Vals xs.dropLast us.dropLast := by
  induction h with
  | nil => exact .nil
  | cons r t ih =>
    cases t with
    | nil => exact .nil
    | cons q t' => exact .cons r ih
theorem Vals.reverse {xs : List V} {us : List Value} (h : Vals xs us) : Vals xs.reverse us.reverse := by
  induction h with
  | nil => exact .nil
  | cons r t ih => rw [List.reverse_cons, List.reverse_cons]; exact Vals.append ih (.cons r .nil)
theorem Vals.rep {xs : List V} {us : List Value} (h : Vals xs us) : ∀ k : Nat, Vals (List.replicate k xs).flatten (List.replicate k us).flatten
  | 0 => .nil
  | k + 1 => by
    rw [List.replicate_succ, List.replicate_succ, List.flatten_cons, List.flatten_cons]
    exact Vals.append h (Vals.rep h k)
section
variable {X : Cx} {pins : List (Addr × Obj)} {σ : St} {H : Hp} {s : Shared} {l b : Addr} {xs ys zs : List V}
theorem Inv.lset {its its' : List Value} {n : Nat} {f : Array Value → Array Value} {t' : Nat} (I : Inv X pins σ H s) (hH : H l = some (.lst xs))
    (e : s.heap.get? l = some { cls := .type "list", data := .seq its.toArray n }) (hf : f its.toArray = its'.toArray) (hv : Vals ys its') (hz : ys.length ≤ sizeLine) :
    Inv X pins σ (upd H l (.lst ys)) { s with heap := s.heap.update l (Obj.mapSeq f), toks := t' } := by
  have q := PySem.IsL.update e f
  rw [hf] at q
  refine I.write (x := l) (e := l) (by rw [hH]; exact trivial) (.inl rfl) (fun b' u hb hu => (Heap.get?_update_other s.heap (Obj.mapSeq f) (Ne.symm hb)).trans hu) ⟨_, q⟩ ?_
  exact ⟨hz, its', _, hv, q⟩
theorem Inv.lnew {its : List Value} {t' : Nat} (I : Inv X pins σ H s) (hv : Vals ys its) (hz : ys.length ≤ sizeLine) :
    Inv X pins σ (upd H s.heap.objs.size (.lst ys)) { s with heap := s.heap.push { cls := .type "list", data := .seq its.toArray }, toks := t' } :=
  I.laid (fun _ _ q => Heap.get?_push_of_some _ q) (Nat.le_refl _) ⟨hz, its, 0, hv, Heap.get?_push_size _ rfl⟩
theorem Inv.fresh (I : Inv X pins σ H s) : H s.heap.objs.size = none := I.hok.fresh (Nat.le_refl _)
theorem Inv.lstM (I : Inv X pins σ H s) (hH : H l = some (.lst xs)) : xs.length ≤ sizeLine ∧ ∃ (its : List Value) (n : Nat), Vals xs its ∧ xs.length = its.length ∧ s.heap.get? l = some { cls := .type "list", data := .seq its.toArray n } := by
  obtain ⟨z, its, n, r, e⟩ := I.hok l _ hH
  exact ⟨z, its, n, r, r.length, e⟩
end
section
variable {X : Cx}
def rAppend : V → List V → Hp → VK → Prop := fun x vs H Q => ∃ l xs y, x = .ref l ∧ vs = [y] ∧ H l = some (.lst xs) ∧ xs.length < sizeLine ∧ Q .non (upd H l (.lst (xs ++ [y])))
theorem mt_append : MtM X "list.append" rAppend := by
  intro pins s σ H x vs v us Q I rx rv h
  obtain ⟨l, xs, y, rfl, rfl, hH, hz, q⟩ := h
  cases rx
  obtain ⟨u, rfl, ru⟩ := rv.one
  obtain ⟨z, its, n, r, hl, e⟩ := I.lstM hH
  refine call_meets F.slot_list_append ⟨_, e, rfl⟩ F.entry_list_append (F.args_list_append_2 _ _) (PySem.list_append l its.toArray n u (by rw [List.size_toArray]; omega)) ⟨e, ?_⟩
  refine ⟨.non, _, I.lset (its' := its ++ [u]) hH e (by simp) (r.append (.cons ru .nil)) ?_, rfl, q⟩
  rw [List.length_append, List.length_singleton]
  omega
end
section
variable {prog : Program} {w : World} {A : Around} {E : Value → Shared → Prop} {s : Shared}
end
section
variable {X : Cx}
end
end L2
namespace Att
open PySem PySem.W PySem.Calls PyProof.Rows
theorem ints_of_wellAll {P : Params} {h : Heap} : ∀ (ns : List Int) (vs : List Value), WellAll P h vs (ns.map WData.int) → IntsAre vs ns := by
  intro ns
  induction ns with
  | nil =>
    intro vs w
    rw [List.map_nil] at w
    cases w
    exact .nil
  | cons n ns ih =>
    intro vs w
    rw [List.map_cons] at w
    cases w with
    | cons a b =>
      cases a
      exact .cons _ _ (ih _ b)
theorem script_of {l : OpenLaw} {n : Nat} (hn : l.most = some n) {P : Params} {h : Heap} {args : List WData} {vals : List Value}
    (hpre : l.row.toRowW.claim.pre args = true) (hwl : WellAll P h vals args) :
    ∃ a vs ns, vals = [Value.ref a] ∧ args = [WData.list (ns.map WData.int)] ∧ h.get? a = some { cls := .type "list", data := .seq vs.toArray } ∧ IntsAre vs ns ∧ ns.length ≤ n := by
  have hsh : WShape.hasAll [] args [.list .int] = true := (pre_splitW hpre).1
  have hc : l.pre.holds [] { args := args } = true := (pre_splitW hpre).2
  obtain ⟨d, r, rfl, h1, h2⟩ := hasAllW_cons hsh
  obtain rfl := hasAllW_nil h2
  obtain ⟨xs, rfl, h3⟩ := hasW_list h1
  obtain ⟨ns, rfl⟩ := items_int h3
  have hlen : ns.length ≤ n := by
    unfold OpenLaw.pre at hc
    have h4 : (WTm.not (.lt (.lit (.int (n : Int))) (.len (.arg 0)))).holds [] { args := [.list (ns.map .int)] } = true := by
      have h4 := (holds_andW hc).1
      rw [hn] at h4
      exact h4
    have h5 := condW_of h4 (w_not (w_lt w_lit (w_len_list (w_arg rfl))))
    rw [List.length_map] at h5
    refine Nat.le_of_not_lt fun q => ?_
    have q' : (n : Int) < ((ns.length : Nat) : Int) := by omega
    first
      | (rw [decide_eq_true q'] at h5; exact absurd h5 (by decide))
      | (simp at h5; omega)
  cases hwl with
  | cons w1 w2 =>
    cases w2
    cases w1 with
    | list ho hall => exact ⟨_, _, ns, rfl, rfl, ho, ints_of_wellAll ns _ hall, hlen⟩
theorem post_true (l : OpenLaw) (args : List WData) : l.row.toRowW.claim.post args (.bool true) args = true :=
  postW_of (r := l.row.toRowW) (X := (true == true))
    (show WShape.has [] (.bool true) .bool = true by first | rfl | decide | simp [WShape.has, WShape.arms, WShape.armsAll])
    (show (WTm.eq .res (.lit (.bool true))).value [] { args := args, res := some (.bool true), after := args } = some (.bool (true == true)) from w_eq_bool (w_res rfl) w_lit) rfl
theorem attach_call {l : OpenLaw} {n : Nat} {q : Program} {loose : List Str} {XP : (Str → Option Value) → Heap → Prop} {YP : World → Heap → Prop} {d : DefRec}
    (hn : l.most = some n) (hdf : d.params.defaults = [])
    (call : ∀ (w : World) (s₀ s₁ : Shared) (mg mb : Str → Option Value) (fa : Addr) (o : Obj) (pm cd doc : Value) (a : Addr) (vs : List Value) (ns : List Int),
      Ground q loose [] XP w s₀ mg mb s₁.heap → YP w s₁.heap →
      s₁.heap.get? fa = some o → o.data = .func (docDef d.name d.params d.body d.scope pm cd doc) → s₁.heap.CodeRec cd d.name → mg d.name = some (.ref fa) →
      s₁.heap.get? a = some { cls := .type "list", data := .seq vs.toArray } → IntsAre vs ns → ns.length ≤ n → s₁.gens = #[] →
      codeAny (model l.prog w) callerA (.call (.ref fa) ⟨[.ref a], []⟩) (fun r s' => r = .ok (.ret (.bool true)) ∧ OldK s₁.heap s'.heap ∧ s'.os = s₁.os ∧ AllBare s'.gens) s₁) :
    WalkO q loose XP YP l.row.toRowW d [] (fun f vs => PySem.call f vs) := by
  intro w s₀ s₁ mg mb G Y fa o pm cd doc dV kV ho hd hcd hD hmg hg args vals as hpre hlay hrd hwl hlo
  obtain rfl : dV = .none := Dflts.none hD hdf
  obtain rfl : kV = .none := Dflts.noKw hD
  obtain ⟨a, vs, ns, rfl, rfl, hobj, hints, hlen⟩ := script_of hn hpre hwl
  refine enter_call (codeAny_mono (call w s₀ s₁ mg mb fa o pm cd doc a vs ns G Y ho (fd_plain hd) hcd hmg hobj hints hlen hg) fun r s' hq => ?_)
  obtain ⟨rfl, h2, h3, h4⟩ := hq
  exact ⟨.inl ⟨.bool true, .bool true, [], rfl, fun _ => rfl, .bool true, post_true l _, fun _ => ⟨List.Pairwise.nil, fun _ hm => (nomatch hm)⟩⟩, h2, h3, h4⟩
section
variable {prog : Program} {w : World} {A : Around} {E : Value → Shared → Prop} {s : Shared} {K : Frag}
end
end Att
namespace L2
open PySem PySem.Spec PyProof.Rows
theorem vals_ints : ∀ {vs : List Value} {ns : List Int}, IntsAre vs ns → Vals (ns.map V.int) vs
  | _, _, .nil => .nil
  | _, _, .cons n t h => .cons ⟨t, rfl⟩ (vals_ints h)
end L2
namespace L2
open PySem PySem.Spec PyProof.Rows
abbrev KOf {K : PySem.W.Frag} {h : Heap} (_ : K.In h) : PySem.W.Frag := K
end L2
namespace L2
open PySem PySem.Spec PyProof.Rows
def defArgs (s : Stmt) : Arguments := match s with
  | .FunctionDef _ a _ _ _ _ _ _ _ _ => a
  | _ => { posonlyargs := [], args := [], vararg := none, kwonlyargs := [], kw_defaults := [], kwarg := none, defaults := [] }
def defBody (s : Stmt) : List Stmt := match s with
  | .FunctionDef _ _ b _ _ _ _ _ _ _ => b
  | _ => []
def defScope (s : Stmt) : Scope := match s with
  | .FunctionDef _ _ _ _ _ _ sc _ _ _ => sc
  | _ => { kind := .function, names := [], isGenerator := false, isCoroutine := false }
abbrev CX0 : CXT := fun _ _ _ _ _ _ => False
abbrev E0 : XK := fun _ _ _ => False
theorem pass0 {X : Cx} : Passes CX0 X E0 := fun _ _ _ _ _ _ _ h => h.elim
structure Fun (K : PySem.W.Frag) (x qual : Str) (st : Stmt) (f : Addr) (fd : FuncData) : Prop where
  ex : ∃ (oc : Value) (od : Option Addr) (kV doc pm : Value) (an : Option Addr) (cdv ct : Value) (osl : Array (Option Value)),
    fd = PySem.W.fnOf x qual (defArgs st) (defBody st) (defScope st) .none kV doc pm an cdv ct ∧ K.lookup f = some ⟨oc, od, .func fd, osl⟩ ∧ PySem.W.codeIn K cdv qual = true
  kp : PySem.W.keepIn K (.ref f) = true
section
variable {P : Program} {w : World} {K : PySem.W.Frag} {mg : Str → Option Value} {base : Heap}
theorem Fun.ok {x qual : Str} {st : Stmt} {f : Addr} {fd : FuncData} {N ps : List Str} {k : Nat} {sp : Sp} (F : Fun K x qual st f fd) (S : FnScope N ps (defScope st)) (len : ∀ vs H Q E, sp vs H Q E → vs.length = ps.length)
    (hbody : ∀ (cdv : Value) (A : Around) (outer : List Env) (s : Shared) (H : Hp) (vs : List V) (Q : VK) (E : XK), Room k (A.deeper (envOfC qual (defScope st) s.heap.objs.size f cdv)) → sp vs H Q E →
      ∃ t, PSs (cxOf CX0 P w K mg base N qual (defScope st) f cdv A outer s H E).nox (defBody st) t ∧ t { nx := fun _ H' => Q .non H', rt := Q } (start N vs) H) : FnOk P w K mg base CX0 (k + 1) f fd ps sp := by
  obtain ⟨oc, od, kV, doc, pm, an, cdv, ct, osl, rfl, lk, hcd⟩ := F.ex
  refine fn_of lk hcd S len fun A outer s H vs Q E hr hsp => ?_
  obtain ⟨t, h, q⟩ := hbody cdv A outer s H vs Q E hr hsp
  exact ⟨t, h.nox, q⟩
theorem Fun.binds {x qual : Str} {st : Stmt} {f : Addr} {fd : FuncData} {ps : List Str} (F : Fun K x qual st f fd)
    (h : ∀ (kV doc pm : Value) (an : Option Addr) (cdv ct : Value) (us : List Value), us.length = ps.length → bindArgs (PySem.W.fnOf x qual (defArgs st) (defBody st) (defScope st) .none kV doc pm an cdv ct) ⟨us, []⟩ = pure (ps.zip us)) : Binds K fd ps [] := by
  obtain ⟨oc, od, kV, doc, pm, an, cdv, ct, osl, rfl, lk, hcd⟩ := F.ex
  exact .all (h kV doc pm an cdv ct)
theorem fun_mk {x qual : Str} {st : Stmt} {f : Addr} {oc : Value} {od an : Option Addr} {osl : Array (Option Value)} {kV doc pm cdv ct : Value} (l : K.lookup f = some ⟨oc, od, .func (PySem.W.fnOf x qual (defArgs st) (defBody st) (defScope st) .none kV doc pm an cdv ct), osl⟩)
    (c : PySem.W.codeIn K cdv qual = true) (k : PySem.W.keepIn K (.ref f) = true) : Fun K x qual st f (PySem.W.fnOf x qual (defArgs st) (defBody st) (defScope st) .none kV doc pm an cdv ct) := ⟨⟨oc, od, kV, doc, pm, an, cdv, ct, osl, rfl, l, c⟩, k⟩
end
theorem small1000 {n : Nat} (h : n ≤ 1000) : n < sizeLine := Nat.lt_of_le_of_lt h (by decide)
section
variable {X : Cx}
theorem pv (i : Nat) {x : Str} {pos : Pos} (hN : X.N[i]? = some x := by rfl) (hv : Vis X.env.scope x := by first | exact Or.inl rfl | exact Or.inr (Or.inl rfl) | exact Or.inr (Or.inr rfl)) (hd : (x == ("__debug__" : Str)) = false := by decide)
    (hcd : (x == ("__classdict__" : Str)) = false := by decide) : PE X (.Name x pos) (tVar i) := pe_var hN hv hd hcd
end
theorem ite2 {c A B : Prop} [Decidable c] (h1 : c → A) (h2 : ¬ c → B) : if c then A else B := by
  by_cases h : c
  · rw [if_pos h]
    exact h1 h
  · rw [if_neg h]
    exact h2 h
def Same (H H' : Hp) : Prop := ∀ b o, H b = some o → H' b = some o
theorem Same.refl (H : Hp) : Same H H := fun _ _ h => h
theorem Same.trans {H H1 H2 : Hp} (a : Same H H1) (b : Same H1 H2) : Same H H2 := fun c o h => b c o (a c o h)
theorem Same.free {H H' : Hp} (e : Same H H') {l : Addr} (h : H' l = Option.none) : H l = Option.none := by
  cases q : H l with
  | none => rfl
  | some o =>
    rw [e l o q] at h
    cases h
theorem Same.seq {K : PySem.W.Frag} {H H' : Hp} {a : Addr} {xs : List V} (e : Same H H') (h : SqL K H a xs) : SqL K H' a xs := by
  rcases h with (h | ⟨o, h⟩) | h
  · exact .inl (.inl (e _ _ h))
  · exact .inl (.inr ⟨o, e _ _ h⟩)
  · exact .inr h
end L2
set_option Elab.async false
set_option linter.all false
namespace Ov
theorem gcd_step {a b : Int} (h : b ≠ 0) : Int.gcd b (a % b) = Int.gcd a b := by
  have e : a = b * (a / b) + a % b := (Int.mul_ediv_add_emod a b).symm
  have d1 : ((Int.gcd b (a % b) : Nat) : Int) ∣ a := by
    rw [e]
    exact Int.dvd_add (Int.dvd_trans (Int.gcd_dvd_left ..) (Int.dvd_mul_right ..)) (by rw [← e]; exact Int.gcd_dvd_right ..)
  have d2 : ((Int.gcd a b : Nat) : Int) ∣ a % b := by
    have e2 : a % b = a - b * (a / b) := by omega
    rw [e2]
    exact Int.dvd_sub (Int.gcd_dvd_left ..) (Int.dvd_trans (Int.gcd_dvd_right ..) (Int.dvd_mul_right ..))
  exact Nat.dvd_antisymm (Int.dvd_gcd d1 (Int.gcd_dvd_left ..)) (Int.dvd_gcd (Int.gcd_dvd_right ..) d2)
theorem gcd_end {a : Int} (h : 0 ≤ a) : ((Int.gcd a 0 : Nat) : Int) = a := by
  rw [Int.gcd_zero_right]; omega
theorem gcd_abs (a b : Int) : Int.gcd (if a < 0 then -a else a) (if b < 0 then -b else b) = Int.gcd a b := by
  split <;> split <;> simp [Int.gcd_neg, Int.neg_gcd]
theorem gcd_abs1 (a b : Int) : Int.gcd (if a < 0 then -a else a) b = Int.gcd a b := by
  split <;> simp [Int.gcd_neg, Int.neg_gcd]
theorem gcd_pos {t b : Int} (h : b ≠ 0) : 0 < ((Int.gcd t b : Nat) : Int) := by
  have : 0 < Int.gcd t b := Int.gcd_pos_of_ne_zero_right t h
  omega
theorem gcd_le {t b : Int} (h : b ≠ 0) : Int.gcd t b ≤ b.natAbs := Nat.le_of_dvd (by omega) (Int.ofNat_dvd.mp (by rw [Int.dvd_natAbs]; exact Int.gcd_dvd_right ..))
theorem num_pos {t b : Int} (h : 0 < b) : t.fdiv ((Int.gcd t b : Nat) : Int) = (Rat.divInt t b).num := by
  rw [Rat.num_divInt, Int.sign_eq_one_of_pos h, Int.one_mul, Int.gcd_comm b t, Int.fdiv_eq_ediv_of_nonneg _ (Int.natCast_nonneg _)]
theorem den_pos {t b : Int} (h : 0 < b) : b.fdiv ((Int.gcd t b : Nat) : Int) = ((Rat.divInt t b).den : Int) := by
  rw [Rat.den_divInt, if_neg (by omega), Int.gcd_comm b t, Int.fdiv_eq_ediv_of_nonneg _ (Int.natCast_nonneg _)]
  rw [Int.natCast_ediv]
  congr 1
  omega
theorem num_neg {t b : Int} (h : b < 0) : t.fdiv (-((Int.gcd t b : Nat) : Int)) = (Rat.divInt t b).num := by
  have e : t.fdiv (-((Int.gcd t b : Nat) : Int)) = (-t).fdiv ((Int.gcd t b : Nat) : Int) := by
    have := Int.neg_fdiv_neg (a := -t) (b := ((Int.gcd t b : Nat) : Int))
    rw [← this]; simp
  rw [e, Rat.num_divInt, Int.sign_eq_neg_one_of_neg h, Int.gcd_comm b t, Int.fdiv_eq_ediv_of_nonneg _ (Int.natCast_nonneg _)]
  congr 1
  omega
theorem num_abs (t b : Int) : (Rat.divInt t b).num.natAbs ≤ t.natAbs := by
  rcases Int.lt_trichotomy b 0 with h | h | h
  · rw [← num_neg h]
    exact Int.natAbs_fdiv_le_natAbs ..
  · subst h; simp
  · rw [← num_pos h, Int.fdiv_eq_ediv_of_nonneg _ (Int.natCast_nonneg _)]
    exact Int.natAbs_ediv_le_natAbs ..
theorem den_abs {t b : Int} (h : b ≠ 0) : (((Rat.divInt t b).den : Int)).natAbs ≤ b.natAbs := by
  rw [Rat.den_divInt, if_neg h]
  exact Nat.div_le_self ..
end Ov
set_option Elab.async false
set_option linter.all false
set_option maxRecDepth 100000
namespace Ov
open PySem PySem.Spec PyProof.Rows L2
structure Bd (n : Nat) (x : Int) : Prop where
  lt : x.natAbs < 2 ^ n
theorem Bd.bits {n : Nat} {x : Int} (h : Bd n x) : Builtin.Int.intBits x ≤ n := intBits_le_iff.mpr h.lt
theorem Bd.of {n : Nat} {x : Int} (h : Builtin.Int.intBits x ≤ n) : Bd n x := ⟨intBits_le_iff.mp h⟩
theorem Bd.mono {m n : Nat} {x : Int} (h : Bd m x) (hmn : m ≤ n) : Bd n x := .of (Nat.le_trans h.bits hmn)
theorem Bd.sub {m n k : Nat} {x y : Int} (h : Bd m x) (g : Bd n y) (hk : max m n + 1 ≤ k := by decide) : Bd k (x - y) := (Bd.of (intBits_sub_le h.bits g.bits)).mono hk
theorem Bd.le {n : Nat} {x y : Int} (g : Bd n y) (h : x.natAbs ≤ y.natAbs) : Bd n x := ⟨Nat.lt_of_le_of_lt h g.lt⟩
theorem Bd.small {x : Int} (h1 : -(2 ^ 64) < x) (h2 : x < 2 ^ 64) : Bd 64 x := .of (intBits_le_64 h1 h2)
theorem Bd.log {n : Nat} {x : Int} (h : Bd n x) (hn : n ≤ 9000) (h0 : x ≠ 0) : x.natAbs.log2 < 9000 :=
  Nat.lt_of_lt_of_le ((Nat.log2_lt (by omega)).mpr h.lt) hn
section
variable {X : Cx}
def CM (i j : Int) : Prop := ∃ m n, Bd m i ∧ Bd n j ∧ m + n ≤ 134217728
theorem CM.of {m n : Nat} {i j : Int} (h : Bd m i) (g : Bd n j) (hk : m + n ≤ 134217728 := by decide) : CM i j := ⟨m, n, h, g, hk⟩
theorem op_mulB : OpR X (binaryOp .Mult) (rI CM fun i j => .int (i * j)) := opI fun _ _ _ _ _ _ _ hc q => by
  obtain ⟨m, n, h, g, hk⟩ := hc
  exact mul_int q (IntMulOk.of_le h.bits g.bits hk)
def CQ (_ j : Int) : Prop := j ≠ 0 ∧ Bd 9000 j
theorem op_fdivB : OpR X (binaryOp .FloorDiv) (rI CQ fun i j => .int (i.fdiv j)) := opI fun _ _ _ _ _ _ _ hc q =>
  floordiv_int hc.1 q (.inl (PyProof.noPylong_of_log2 (hc.2.log (Nat.le_refl _) hc.1)))
def rT2 (f : Bool → Bool) : R2 := fun x y H Q => ∃ (p q : Addr) (a b c d : Int), x = .ref p ∧ y = .ref q ∧ H p = some (.tup [.int a, .int b]) ∧ H q = some (.tup [.int c, .int d]) ∧ Q (.bl (f (decide (a = c ∧ b = d)))) H
def tCut (t u : TS) : TS := fun D σ H => ∃ M : L2.St → Hp → Prop, t { D with nx := M } σ H ∧ ∀ σ' H', M σ' H' → u D σ' H'
theorem pss_cut {st : Stmt} {rest : List Stmt} {t u : TS} (h1 : PS X st t) (h2 : PSs X rest u) : PSs X (st :: rest) (tCut t u) := by
  intro pins s σ H D I h
  obtain ⟨M, h, k⟩ := h
  refine wpAny_execs_cons (thn (h1 pins s σ H { D with nx := M } I h) fun f s1 q => ?_)
  cases f with
  | next =>
    obtain ⟨σ', H', I', q⟩ := q
    exact h2 pins s1 σ' H' D I' (k _ _ q)
  | ret v => exact q
  | brk => exact q
  | cont => exact q
end
section
variable {X : Cx}
def rIxLH : R2 := fun x y H Q => ∃ p xs i v, x = .ref p ∧ y = .int i ∧ H p = some (.lst xs) ∧ atI xs i = some v ∧ Q v H
def rIxTH : R2 := fun x y H Q => ∃ p xs i v, x = .ref p ∧ y = .int i ∧ H p = some (.tup xs) ∧ atI xs i = some v ∧ Q v H
theorem ix_listH : IxR X rIxLH := fun value slice pins s σ H x y v u Q I rx ry ⟨p, xs, i, z, e1, e2, h, e3, q⟩ hs =>
  ix_list value slice pins s σ H x y v u Q I rx ry ⟨p, xs, i, z, e1, e2, SqL.of h, e3, q⟩ hs
end
theorem atI_0 {α : Type} (x : α) (xs : List α) : atI (x :: xs) 0 = some x := atI_nat (j := 0) rfl
theorem atI_1 {α : Type} (x y : α) (xs : List α) : atI (x :: y :: xs) 1 = some y := atI_nat (j := 1) rfl
theorem atI_2 {α : Type} (x y z : α) (xs : List α) : atI (x :: y :: z :: xs) 2 = some z := atI_nat (j := 2) rfl
theorem atI_3 {α : Type} (x y z u : α) (xs : List α) : atI (x :: y :: z :: u :: xs) 3 = some u := atI_nat (j := 3) rfl
theorem scal_ii (i j : Int) : scal (.int i) (.int j) = true := rfl
theorem scal_bb (i j : Bool) : scal (.bl i) (.bl j) = true := rfl
theorem scal_ss (i j : Str) : scal (.str i) (.str j) = true := rfl
def Can (P : Program) (w : World) (K : PySem.W.Frag) (mg : Str → Option Value) (base : Heap) (k : Nat) (x : Str) (ps : List Str) (sp : Sp) : Prop :=
  ∃ f fd, FnOk P w K mg base CX0 k f fd ps sp ∧ Binds K fd ps [] ∧ PySem.W.keepIn K (.ref f) = true ∧ mg x = some (.ref f)
theorem pe_can {X : Cx} {k k' : Nat} {x : Str} {ps : List Str} {sp : Sp} {p pos : Pos} {e : Expr} {es : List Expr} {t : TA} (C : Can X.prog X.w X.K X.mg X.base k x ps sp) (hr : Room k' X.A) (hk : k ≤ k') (hg : Gl X x) (ha : PA X (e :: es) t)
    (hdb : (x == ("__debug__" : Str)) = false := by decide) (he : starEach (e :: es) X.env = (false, eval e X.env) :: starEach es X.env := by rfl) (hpl : (backTo pos (starEach es X.env)).any (·.1) = false := by rfl) :
    PE X (.Call (.Name x p) (e :: es) [] pos) (tCall sp [] E0 t) := by
  obtain ⟨f, fd, F, b, kp, m⟩ := C
  exact pe_call F (hr.mono hk) hg m kp b .nil pass0 ha hdb he hpl
theorem fsc {N P : List Str} {sc : Scope} (a : sc.kind = .function := by rfl) (b : sc.isCoroutine = false := by rfl) (c : sc.isGenerator = false := by rfl) (d : N.Nodup := by decide +kernel) (e : N.take P.length = P := by rfl) (f : ∀ x ∈ P, sc.names.lookup x = some .local ∨ sc.names.lookup x = some .cell := by decide +kernel) (g : ∀ y ∈ sc.names, y.2 ≠ .free := by decide +kernel) : FnScope N P sc := ⟨a, b, c, d, e, f, g⟩
def Def (K : PySem.W.Frag) (mg : Str → Option Value) (x : Str) (st : Stmt) : Prop := ∃ f fd, Fun K x x st f fd ∧ mg x = some (.ref f)
theorem def_mk {K : PySem.W.Frag} {h : Heap} {mg : Str → Option Value} {x : Str} {st : Stmt} (X : K.In h) (G : h.Ns mainGlobals mg) {f : Addr} {od an : Option Addr} {sl : Array (Option Value)} {oc kV dc pm cd ct : Value}
    (a : PySem.W.nsIn K mainGlobals x = some (some (.ref f))) (l : K.lookup f = some ⟨oc, od, .func (PySem.W.fnOf x x (defArgs st) (defBody st) (defScope st) .none kV dc pm an cd ct), sl⟩) (c : PySem.W.codeIn K cd x = true) (k : PySem.W.keepIn K (.ref f) = true) :
    Def K mg x st := ⟨f, _, fun_mk l c k, PySem.W.mg_of X G a⟩
theorem Def.can {P : Program} {w : World} {K : PySem.W.Frag} {mg : Str → Option Value} {base : Heap} {x : Str} {st : Stmt} {k : Nat} {ps : List Str} {sp : Sp} (D : Def K mg x st)
    (h : ∀ f fd, Fun K x x st f fd → FnOk P w K mg base CX0 k f fd ps sp)
    (hb : ∀ (kV doc pm : Value) (an : Option Addr) (cdv ct : Value) (us : List Value), us.length = ps.length → bindArgs (PySem.W.fnOf x x (defArgs st) (defBody st) (defScope st) .none kV doc pm an cdv ct) ⟨us, []⟩ = pure (ps.zip us)) :
    Can P w K mg base k x ps sp := by
  obtain ⟨f, fd, F, m⟩ := D
  exact ⟨f, fd, h f fd F, F.binds hb, F.kp, m⟩
theorem law_fd {K : PySem.W.Frag} {mg : Str → Option Value} {st : Stmt} {fa : Addr} {p : Str} (D : Def K mg "law" st) (hfa : mg "law" = some (.ref fa))
    (hb : ∀ (kV doc pm : Value) (an : Option Addr) (cdv ct : Value) (u : Value), bindArgs (PySem.W.fnOf "law" "law" (defArgs st) (defBody st) (defScope st) .none kV doc pm an cdv ct) ⟨[u], []⟩ = pure [(p, u)]) :
    ∃ fd, Fun K "law" "law" st fa fd ∧ ∀ (s : Shared) (u : Value), BindsTo s fd ⟨[u], []⟩ [(p, u)] := by
  obtain ⟨f, fd, F, m⟩ := D
  have e := m.symm.trans hfa
  cases e
  obtain ⟨oc, od, kV, doc, pm, an, cdv, ct, osl, rfl, lk, hcd⟩ := F.ex
  exact ⟨_, F, fun s u => .of_eq (hb kV doc pm an cdv ct u)⟩
structure Blt (mg : Str → Option Value) : Prop where
  abs : mg "abs" = none
  len : mg "len" = none
  isinstance : mg "isinstance" = none
  range : mg "range" = none
  int : mg "int" = none
  bool : mg "bool" = none
  tuple : mg "tuple" = none
  list : mg "list" = none
  sorted : mg "sorted" = none
  all : mg "all" = none
theorem _root_.L2.Same.tup {K : PySem.W.Frag} {H H' : Hp} {a : Addr} {xs : List V} (e : Same H H') (h : SqT K H a xs) : SqT K H' a xs := by
  rcases h with (h | ⟨o, h⟩) | h
  · exact .inl (.inl (e _ _ h))
  · exact .inl (.inr ⟨o, e _ _ h⟩)
  · exact .inr h
theorem _root_.L2.Same.new {H : Hp} {p : Addr} (h : H p = none) (o : HO) : Same H (upd H p o) := fun b u q => by rw [upd_ne (ne_of_none q h)]; exact q
theorem _root_.L2.Same.rew {H H' : Hp} {p : Addr} (h : H p = none) (e : Same H H') (o : HO) : Same H (upd H' p o) := fun b u q => by rw [upd_ne (ne_of_none q h)]; exact e b u q
def Fra (K : PySem.W.Frag) (H : Hp) (a : Addr) (q : Rat) : Prop := SqT K H a [.int q.num, .int q.den]
theorem Fra.keep {K : PySem.W.Frag} {H H' : Hp} {a : Addr} {q : Rat} (h : Fra K H a q) (e : Same H H') : Fra K H' a q := e.tup h
structure Sz (n : Nat) (q : Rat) : Prop where
  num : Bd n q.num
  den : Bd n q.den
theorem Sz.mono {m n : Nat} {q : Rat} (h : Sz m q) (k : m ≤ n) : Sz n q := ⟨h.num.mono k, h.den.mono k⟩
theorem rat_iff (x y : Rat) : (x.num = y.num ∧ (x.den : Int) = (y.den : Int)) = (x = y) := propext
  ⟨fun h => Rat.ext h.1 (by have := h.2; omega), fun h => by subst h; exact ⟨rfl, rfl⟩⟩
end Ov
set_option Elab.async false
set_option linter.all false
set_option maxRecDepth 100000
namespace Ov
open PySem PySem.Spec PyProof.Rows L2
theorem lookup_relabel (c : Str → NameKind → Bool) : ∀ (names : List (Str × NameKind)) (y : Str),
    (names.map fun (x : Str × NameKind) => if c x.1 x.2 then (x.1, NameKind.cell) else (x.1, x.2)).lookup y = (names.lookup y).map fun k => if c y k then NameKind.cell else k
  | [], _ => rfl
  | (n, k) :: r, y => by
    have ih := lookup_relabel c r y
    cases hy : y == n with
    | true =>
      have e : y = n := by simpa using hy
      subst e
      by_cases h : c y k = true <;> simp [List.lookup_cons, h]
    | false =>
      by_cases h : c n k = true <;> simp [List.lookup_cons, h, hy, ih]
theorem relabel_lookup (sc : Scope) (env : Env) (y : Str) : (relabel sc env).names.lookup y = (sc.names.lookup y).map fun k => if (k == .free && env.scope.kind == .function && env.kindOf y == some .cell) then NameKind.cell else k := by
  have h := lookup_relabel (fun n k => k == .free && env.scope.kind == .function && env.kindOf n == some .cell) sc.names y
  exact h
theorem closure_of {env : Env} : ∀ (names : List (Str × NameKind)) (acc : List (Str × Addr)), (∀ y ∈ names, y.2 = .free → ∃ c, env.cells.lookup y.1 = some c) → (∀ y c, acc.lookup y = some c → env.cells.lookup y = some c) →
    ∃ cl, (forIn names acc fun (x : Str × NameKind) (r : List (Str × Addr)) => match x with
      | (name, kind) => if (kind == NameKind.free) = true then (do let c ← cellOf env name; pure (ForInStep.yield ((name, c) :: r))) else (pure (ForInStep.yield r) : Sem (ForInStep (List (Str × Addr))))) = (pure cl : Sem (List (Str × Addr))) ∧
      (∀ y c, cl.lookup y = some c → env.cells.lookup y = some c) ∧ (∀ y c, acc.lookup y = some c → ∃ c, cl.lookup y = some c) ∧ ∀ y ∈ names, y.2 = .free → ∃ c, cl.lookup y.1 = some c
  | [], acc, _, ha => ⟨acc, rfl, ha, fun y c e => ⟨c, e⟩, fun y hy => by cases hy⟩
  | (n, k) :: r, acc, hn, ha => by
    by_cases hk : k = .free
    · subst hk
      obtain ⟨c, hc⟩ := hn (n, .free) List.mem_cons_self rfl
      obtain ⟨cl, e, h1, h2, h3⟩ := closure_of r ((n, c) :: acc) (fun y hy => hn y (List.mem_cons_of_mem _ hy)) (fun y d e => by
        rw [List.lookup_cons] at e
        cases hy : y == n with
        | true =>
          rw [hy] at e
          have e1 : y = n := by simpa using hy
          subst e1
          rw [hc]
          exact e
        | false => rw [hy] at e; exact ha y d e)
      have self : ∃ d, cl.lookup n = some d := h2 n c (by simp [List.lookup_cons])
      refine ⟨cl, ?_, h1, fun y d q => ?_, fun y hy hf => ?_⟩
      · rw [List.forIn_cons]
        have ec : cellOf env n = pure c := by unfold cellOf; rw [hc]
        simp only [beq_self_eq_true, if_true, ec, pure_bind]
        exact e
      · by_cases hy : y = n
        · subst hy; exact self
        · exact h2 y d (by rw [List.lookup_cons]; have : (y == n) = false := by simpa using hy
                           rw [this]; exact q)
      · rcases List.mem_cons.mp hy with rfl | hy
        · exact self
        · exact h3 y hy hf
    · obtain ⟨cl, e, h1, h2, h3⟩ := closure_of r acc (fun y hy => hn y (List.mem_cons_of_mem _ hy)) ha
      refine ⟨cl, ?_, h1, h2, fun y hy hf => ?_⟩
      · rw [List.forIn_cons]
        have hb : (k == NameKind.free) = false := by simpa using hk
        simp only [hb, Bool.false_eq_true, if_false, pure_bind]
        exact e
      · rcases List.mem_cons.mp hy with rfl | hy
        · exact absurd hf hk
        · exact h3 y hy hf
theorem closure_at {sc : Scope} {env : Env} (h : ∀ y ∈ sc.names, y.2 = .free → ∃ c, env.cells.lookup y.1 = some c) :
    ∃ cl, closureFor sc env = pure cl ∧ (∀ y c, cl.lookup y = some c → env.cells.lookup y = some c) ∧ ∀ y ∈ sc.names, y.2 = .free → ∃ c, cl.lookup y.1 = some c := by
  obtain ⟨cl, e, h1, _, h3⟩ := closure_of sc.names [] h (fun y c z => by cases z)
  refine ⟨cl, ?_, h1, h3⟩
  unfold closureFor
  have e' := congrArg (fun m => m >>= fun r => (pure r : Sem (List (Str × Addr)))) e
  simp only [pure_bind] at e'
  exact e'
abbrev CompOk (sc osc : Scope) (N : List Str) (x : Str) (ks : List (Str × Nat)) : Prop :=
  sc.kind = .function ∧ (∀ y ∈ sc.names, y.2 ≠ .cell) ∧ sc.names.lookup x = some .local ∧ (∀ y ∈ sc.names, y.2 = .local → sc.names.lookup y.1 = some .local) ∧
  (∀ y ∈ sc.names, y.2 = .free → osc.names.lookup y.1 = some .cell) ∧ (∀ p ∈ ks, N[p.2]? = some p.1 ∧ sc.names.lookup p.1 = some .free) ∧ (x :: ks.map (·.1)).Nodup
def cxC (X : Cx) (sc : Scope) (cl : List (Str × Addr)) (C : Addr) (x : Str) (ks : List (Str × Nat)) (s₀ : Shared) (H₀ : Hp) (fp : List Addr) (pins : List (Addr × Obj)) : Cx :=
  { X with N := x :: ks.map (·.1), s₀ := s₀, H₀ := H₀, env := compEnvC sc cl C X.env, outer := X.stack, ex := fp, fn := fun _ => false, pn := X.pn ++ pins, xe := fun _ _ => False }
def selC (ks : List (Str × Nat)) (σ : L2.St) : L2.St := ks.map fun p => (σ[p.2]?).getD none
section
variable {X : Cx} {pins : List (Addr × Obj)} {σ : L2.St} {H : Hp} {s : Shared} {sc : Scope} {cl : List (Str × Addr)} {x : Str} {ks : List (Str × Nat)} {fp : List Addr}
theorem inv_comp (I : Inv X pins σ H s) (ok : CompOk sc X.env.scope X.N x ks) (h1 : ∀ y c, cl.lookup y = some c → X.env.cells.lookup y = some c) (h2 : ∀ y ∈ sc.names, y.2 = .free → ∃ c, cl.lookup y.1 = some c)
    (hfp : ∀ b ∈ fp, FpOk X pins H b ∧ ∃ o, s.heap.get? b = some o) {h4 : Heap} {m : Str → Option Value} {t' : Nat} (hn : h4.Ns s.heap.objs.size m) (kp : ∀ b o, s.heap.get? b = some o → h4.get? b = some o) :
    Inv (cxC X sc cl s.heap.objs.size x ks s H fp pins) [] (none :: selC ks σ) H { s with heap := h4, toks := t' } := by
  obtain ⟨kd, nc, lx, ll, fr, kk, nd⟩ := ok
  have fresh : H s.heap.objs.size = none := I.hok.fresh (Nat.le_refl _)
  have lt : ∀ b o, s.heap.get? b = some o → b ≠ s.heap.objs.size := fun b o e => Nat.ne_of_lt (Heap.lt_size e)
  have cellLt : ∀ y c, X.env.cells.lookup y = some c → c ≠ s.heap.objs.size := fun y c e => by
    obtain ⟨v, o, ho, _⟩ := I.cell y c e
    exact lt c o ho
  have sub : ∀ b ∈ frs X.stack, b = X.env.locals ∨ b ∈ X.fs := fun b hb => List.mem_cons.mp (I.stkSub b hb)
  have kof : ∀ y, (compEnvC sc cl s.heap.objs.size X.env).kindOf y = (relabel sc X.env).names.lookup y := fun y => rfl
  have ok' : (cxC X sc cl s.heap.objs.size x ks s H fp pins).Ok := {
    mod := I.ok.mod
    kind := kd
    glob := I.ok.glob
    blt := I.ok.blt
    above := Nat.le_refl _
    inj := fun y z c e1 e2 => I.ok.inj y z c (h1 y c e1) (h1 z c e2)
    has := fun y hy => by
      rw [show (cxC X sc cl s.heap.objs.size x ks s H fp pins).env.kindOf y = _ from kof y, relabel_lookup] at hy
      cases e : sc.names.lookup y with
      | none => rw [e] at hy; rcases hy with z | z <;> cases z
      | some k =>
        have hm : (y, k) ∈ sc.names := by
          have := List.lookup_eq_some_iff.mp e
          obtain ⟨l1, l2, q, _⟩ := this
          rw [q]
          simp
        by_cases hk : k = .free
        · subst hk; exact h2 _ hm rfl
        · have hb : (k == NameKind.free) = false := by simpa using hk
          rw [e] at hy
          simp only [Option.map_some, hb, Bool.false_and, Bool.false_eq_true, if_false] at hy
          rcases hy with z | z
          · exact absurd (Option.some.inj z) (nc _ hm)
          · exact absurd (Option.some.inj z) hk
    cab := fun _ _ z => by cases z
    hd := fun z => I.ok.hd z
    frames := I.ok.frames
    stk := .inl rfl
    exf := fun b hb => ⟨lt b _ (hfp b hb).2.choose_spec, fun y c e => (hfp b hb).1.2.2.2.2.1 y c (h1 y c e)⟩
    bs := fun b o e => I.bs b o e
    bsz := Nat.le_trans I.ok.bsz I.sz
    noex := fun b o e hb => by
      rcases (hfp b hb).1.2.2.2.1 with z | z
      · exact I.ok.noex b o e z
      · exact absurd (Nat.lt_of_lt_of_le (Heap.lt_size e) (Nat.le_trans I.ok.bsz z)) (Nat.lt_irrefl _)
    exfs := fun b hb z => by
      rcases sub b z with e | e
      · exact (hfp b hb).1.2.1 e
      · exact (hfp b hb).1.2.2.1 e
    funs := I.stack
    frf := I.stkFree }
  obtain ⟨mX, hnX, hlX⟩ := I.loc
  refine ⟨ok', rfl, I.bare, Un.kept kp, ⟨m, hn, fun i y v e1 e2 e3 => ?_⟩, fun y c e => ?_, fresh, fun y c e => I.freeC y c (h1 y c e), fun p hp => ?_, I.hok.kept kp, by simp [cxC, selC]⟩
  · cases i with
    | zero =>
      rw [List.getElem?_cons_zero] at e2
      cases e2
    | succ i =>
      have e1' : (ks.map (·.1))[i]? = some y := by simpa [cxC] using e1
      rw [List.getElem?_cons_succ] at e2
      unfold selC at e2
      rw [List.getElem?_map] at e1' e2
      cases ep : ks[i]? with
      | none => rw [ep] at e1'; cases e1'
      | some p =>
        rw [ep] at e1' e2
        have ey : p.1 = y := Option.some.inj e1'
        have ev : (σ[p.2]?).getD none = some v := Option.some.inj e2
        obtain ⟨kN, kf⟩ := kk p (List.mem_of_getElem? ep)
        have es : σ[p.2]? = some (some v) := by
          cases q : σ[p.2]? with
          | none => rw [q] at ev; cases ev
          | some w => rw [q] at ev; exact congrArg some ev
        have hm : (p.1, NameKind.free) ∈ sc.names := by
          obtain ⟨l1, l2, q, _⟩ := List.lookup_eq_some_iff.mp kf
          rw [q]
          simp
        have oc : X.env.scope.names.lookup p.1 = some .cell := fr _ hm rfl
        obtain ⟨u, ru, lu⟩ := hlX p.2 p.1 v kN es (.inr (.inl oc))
        refine ⟨u, ru, .inr ⟨.inl ?_, ?_⟩⟩
        · rw [show (cxC X sc cl s.heap.objs.size x ks s H fp pins).env.kindOf y = _ from kof y, relabel_lookup, ← ey, kf]
          have k1 : X.env.kindOf p.1 = some .cell := oc
          simp [I.ok.kind, k1]
        · obtain ⟨c, hc⟩ := h2 _ hm rfl
          have hc : cl.lookup p.1 = some c := hc
          rcases lu with ⟨z, _⟩ | ⟨_, c', hc', z⟩
          · have z' : X.env.scope.names.lookup p.1 = some .local := z
            rw [oc] at z'; cases z'
          · have := h1 _ _ hc
            rw [hc'] at this
            cases this
            obtain ⟨o, ho, hd⟩ := z
            exact ⟨_, by rw [← ey]; exact hc, o, kp _ _ ho, hd⟩
  · obtain ⟨v, o, ho, hd⟩ := I.cell y c (h1 y c e)
    exact ⟨v, o, kp _ _ ho, hd⟩
  · rw [List.append_nil] at hp
    obtain ⟨a1, a2, a3, a4, a5⟩ := I.pin p hp
    refine ⟨kp _ _ a1, a2, lt _ _ a1, fun z => ?_, a5⟩
    rcases sub p.1 z with e | e
    · exact a3 e
    · exact a4 e
end
def PTs (X : Cx) (ifs : List Expr) (t : TT) : Prop :=
  ∀ (pins : List (Addr × Obj)) (s : Shared) (σ : L2.St) (H : Hp) (Q : Bool → Hp → Prop), Inv X pins σ H s → t σ H Q →
    wpAny (model X.prog X.w) X.A (forIn ifs true fun c r => if r = true then do let ok ← isTrue c X.env (eval c X.env); pure (ForInStep.yield ok) else pure (ForInStep.yield r)) (TP X pins σ Q) X.xe s
theorem pts_nil {X : Cx} : PTs X [] (fun _ H Q => Q true H) := fun pins s σ H Q I h => by rw [List.forIn_nil]; exact wpAny_pure ⟨H, I, h⟩
section
variable {prog : Program} {w : World} {A : Around} {R : Result → Shared → Prop} {s : Shared}
theorem loop_comp {elt iter : Expr} {ifs : List Expr} {x : Str} {px : Pos} {sc : Scope} {pos : Pos} {it acc : Value} {env : Env} (I : Nat → Shared → Prop)
    (turn : ∀ n s, I n s → wpAny (model prog w) A (pyNext it) (fun r s₁ => match r with
      | none => R (.ok .next) s₁
      | some v => wpAny (model prog w) A (letOwnedTupleGo (.Name x px) it v) (fun _ s₂ => wpAny (model prog w) A (assign (.Name x px) env v) (fun _ s₃ => wpAny (model prog w) A (forIn ifs true fun c r => if r = true then do let ok ← isTrue c env (eval c env); pure (ForInStep.yield ok) else pure (ForInStep.yield r)) (fun ok s₃ => if ok = true then wpAny (model prog w) A (eval elt env) (fun y s₄ =>
          wpAny (model prog w) A (call (.builtin "list.append") [acc, y]) (fun _ s₅ => ∃ m, m < n ∧ I m s₅) (fun _ _ => False) s₄) (fun _ _ => False) s₃ else ∃ m, m < n ∧ I m s₃) (fun _ _ => False) s₃) (fun _ _ => False) s₂) (fun _ _ => False) s₁) (fun _ _ => False) s)
    (n : Nat) (h : I n s) : codeAny (model prog w) A (.compLoop (.ListComp elt [⟨.Name x px, iter, ifs, 0⟩] sc pos) 0 it acc env) R s := by
  refine codeAny_loop rfl I (fun n s hI => ?_) n h
  show wpAny _ _ ((compTurn (.ListComp elt [⟨.Name x px, iter, ifs, 0⟩] sc pos) 0 it acc env).onRaise (fun x => do noteFrame x env; theTreesLotGoes x)) _ _ s
  refine wpAny_noted ?_
  rw [compTurn_list]
  have no : ∀ (e : Value) (s' : Shared), False → notedBy (model prog w) A env (fun e s' => R (.error e) s') e s' := fun _ _ z => z.elim
  refine wpAny_bind (wpAny_standAt (wpAny_bind (wpAny_mono (turn n s hI) (fun r s₁ h₁ => ?_) no)))
  cases r with
  | none => exact wpAny_pure h₁
  | some v =>
    refine wpAny_bind (wpAny_mono h₁ (fun _ s₂ h₂ => ?_) no)
    refine wpAny_bind (wpAny_mono h₂ (fun _ s₃ h₃ => wpAny_bind (wpAny_mono h₃ (fun ok s₃' h₃' => ?_) no)) no)
    cases ok with
    | false => exact wpAny_pure ⟨rfl, h₃'⟩
    | true =>
      exact wpAny_bind (wpAny_bind (wpAny_mono h₃' (fun y s₄ h₄ => wpAny_bind (wpAny_mono h₄ (fun _ s₅ h₅ => wpAny_pure (wpAny_pure ⟨rfl, h₅⟩)) no)) no))
end
def tLCF (wi : TI) (ks : List (Str × Nat)) (tc : TT) (te : TE) : TE := fun σ H Q => wi σ H fun J H1 => ∀ D, H1 D = none → ∃ W : Nat → Nat → Hp → Prop, (∃ m, W 0 m (upd H1 D (.lst []))) ∧
  ∀ i m H2, W i m H2 → (J.stop i H2 ∧ Q (.ref D) H2) ∨ (J.go i H2 ∧ ∀ v H3, J.yld i H2 v H3 → tc (some v :: selC ks σ) H3 fun b H4 => if b = true then te (some v :: selC ks σ) H4 fun y H5 => ∃ ys, H5 D = some (.lst ys) ∧ ys.length < sizeLine ∧ ∃ m', m' < m ∧ W (i + 1) m' (upd H5 D (.lst (ys ++ [y]))) else ∃ m', m' < m ∧ W (i + 1) m' H4)
section
variable {X : Cx}
theorem run_comp {elt iter : Expr} {ifs : List Expr} {x : Str} {px : Pos} {sc : Scope} {pos : Pos} {te : TE} {tc : TT} {ks : List (Str × Nat)} {cl : List (Str × Addr)} {pins : List (Addr × Obj)} {σ : L2.St} {H : Hp} {s : Shared} {it : Addr} {fp : List Addr} {tn : Nat → Heap → Prop} {J : It} {Q : VK}
    {RR : Value → Addr → Result → Shared → Prop} {E : Value → Shared → Prop}
    (hc : X.calm = true) (ok : CompOk sc X.env.scope X.N x ks) (h1 : ∀ y c, cl.lookup y = some c → X.env.cells.lookup y = some c) (h2 : ∀ y ∈ sc.names, y.2 = .free → ∃ c, cl.lookup y.1 = some c)
    (he : ∀ cl C s₀ H₀ fp pins, PE (cxC X sc cl C x ks s₀ H₀ fp pins) elt te) (hcn : ∀ cl C s₀ H₀ fp pins, PTs (cxC X sc cl C x ks s₀ H₀ fp pins) ifs tc)
    (I : Inv X pins σ H s) (T : Turn X.prog X.w X.K (.Name x px) J fp it tn) (st : tn 0 s.heap) (f : ∀ b ∈ fp, FpOk X pins H b)
    (hw : ∀ D, H D = none → ∃ W : Nat → Nat → Hp → Prop, (∃ m, W 0 m (upd H D (.lst []))) ∧ ∀ i m H2, W i m H2 → (J.stop i H2 ∧ Q (.ref D) H2) ∨
      (J.go i H2 ∧ ∀ v H3, J.yld i H2 v H3 → tc (some v :: selC ks σ) H3 fun b H4 => if b = true then te (some v :: selC ks σ) H4 fun y H5 => ∃ ys, H5 D = some (.lst ys) ∧ ys.length < sizeLine ∧ ∃ m', m' < m ∧ W (i + 1) m' (upd H5 D (.lst (ys ++ [y]))) else ∃ m', m' < m ∧ W (i + 1) m' H4))
    (hR : ∀ (D C : Addr) (s' : Shared) (H' : Hp) (m : Str → Option Value), Inv X pins σ H' s' → Q (.ref D) H' → s'.heap.Ns C m → H' C = none → C ≠ X.env.locals → X.s₀.heap.objs.size ≤ C → (∀ y c, X.env.cells.lookup y = some c → c ≠ C) → (∀ p ∈ X.pn ++ pins, p.1 ≠ C) → RR (.ref D) C (.ok .next) s') :
    wpAny (model X.prog X.w) X.A (newList []) (fun acc s₃ => wpAny (model X.prog X.w) X.A (newFunctionEnv sc X.env.globals cl [] X.env.qual none .none (some X.env)) (fun cenv s₄ =>
      codeAny (model X.prog X.w) X.A (.compStart (.ListComp elt [⟨.Name x px, iter, ifs, 0⟩] sc pos) 0 (.ref it) acc { cenv with scope := relabel sc X.env }) (RR acc cenv.locals) s₄) E s₃) E s := by
  have okk := ok
  obtain ⟨kd, nc, lx, ll, fr, kk, nd⟩ := okk
  have hD0 : H s.heap.objs.size = none := I.hok.fresh (Nat.le_refl _)
  obtain ⟨W, ⟨m0, w0⟩, turn⟩ := hw s.heap.objs.size hD0
  refine wpAny_newObj_type ?_
  have I3 : Inv X pins σ (upd H s.heap.objs.size (.lst [])) { s with heap := s.heap.push { cls := .type "list", dict := none, data := .seq ([] : List Value).toArray } } :=
    I.laid (t' := s.toks) (fun b u e => Heap.get?_push_of_some _ e) (Nat.le_refl _) (show ObjOk X.prog X.w _ _ _ (.lst []) from ⟨Nat.zero_le _, [], 0, .nil, Heap.get?_push_size _ rfl⟩)
  have st3 : tn 0 (s.heap.push { cls := .type "list", dict := none, data := .seq ([] : List Value).toArray }) := T.keep 0 _ _ st fun b hb o e => Heap.get?_push_of_some _ e
  generalize hD : s.heap.objs.size = D at *
  generalize hH : upd H D (.lst []) = H3 at *
  generalize hs3 : ({ s with heap := s.heap.push { cls := .type "list", dict := none, data := .seq ([] : List Value).toArray } } : Shared) = s3 at *
  have e3 : s.heap.push { cls := .type "list", dict := none, data := .seq ([] : List Value).toArray } = s3.heap := by rw [← hs3]
  rw [e3] at st3
  have fD : ∀ b ∈ fp, b ≠ D := fun b hb z => by
    obtain ⟨o, ho, _⟩ := T.obj 0 _ st b hb
    have := Heap.lt_size ho
    rw [z, ← hD] at this
    exact Nat.lt_irrefl _ this
  have f3 : ∀ b ∈ fp, FpOk X pins H3 b := fun b hb => ⟨by rw [← hH, upd_ne (fD b hb)]; exact (f b hb).1, (f b hb).2⟩
  have g3 : ∀ b ∈ fp, ∃ o, s3.heap.get? b = some o := fun b hb => by
    obtain ⟨o, ho, _⟩ := T.obj 0 _ st3 b hb
    exact ⟨o, ho⟩
  refine wpAny_newFunctionEnv nc (by intro y hy; simp at hy) (fun h₁ hns hsb => ?_) kd
  have kp : ∀ b o, s3.heap.get? b = some o → h₁.get? b = some o := fun b o e => hsb.extBut b o (Nat.ne_of_lt (Heap.lt_size e)) (Heap.get?_push_of_some _ e)
  have J0 := inv_comp (fp := fp) (cl := cl) (t' := s3.toks + ([] : List (Str × Value)).length) I3 ok h1 h2 (fun b hb => ⟨f3 b hb, g3 b hb⟩) hns kp
  have st4 : tn 0 h₁ := T.keep 0 _ _ st3 fun b hb o e => kp b o e
  have ltC : ∀ b o, s3.heap.get? b = some o → b ≠ s3.heap.objs.size := fun b o e => Nat.ne_of_lt (Heap.lt_size e)
  have cC : ∀ y c, X.env.cells.lookup y = some c → c ≠ s3.heap.objs.size := fun y c e => by
    obtain ⟨v, o, ho, _⟩ := I3.cell y c e
    exact ltC c o ho
  have pC : ∀ p ∈ X.pn ++ pins, p.1 ≠ s3.heap.objs.size := fun p hp => ltC _ _ (I3.pin p hp).1
  have lC : s3.heap.objs.size ≠ X.env.locals := Nat.ne_of_gt I3.lt
  have fX : ∀ {H' : Hp}, (∀ b ∈ fp, H' b = none) → ∀ b ∈ fp, FpOk (cxC X sc cl s3.heap.objs.size x ks s3 H3 fp pins) [] H' b := fun hn b hb => by
    obtain ⟨o, ho⟩ := g3 b hb
    obtain ⟨_, q1, q2, q3, q4, q5⟩ := f b hb
    refine ⟨hn b hb, ltC b o ho, fun z => ?_, .inl hb, fun y c e => q4 y c (h1 y c e), fun p hp => q5 p (by simpa [cxC] using hp)⟩
    rcases List.mem_cons.mp (I3.stkSub b z) with e | e
    · exact q1 e
    · exact q2 e
  have back : ∀ {o : Option V} {H' : Hp} {s' : Shared}, Inv (cxC X sc cl s3.heap.objs.size x ks s3 H3 fp pins) [] (o :: selC ks σ) H' s' → Inv X pins σ H' s' := fun {o H' s'} J => by
    obtain ⟨hh, g, d, t, os'⟩ := s'
    obtain rfl : os' = s3.os := J.os
    exact I3.call (h' := hh) (g' := g) (d' := d) (t' := t) (ch := fp) J.base J.hok J.bare fun b hb => ⟨(f b hb).2.2.2.1, (f b hb).2.1, (f b hb).2.2.2.2.1, (f b hb).2.2.2.2.2⟩
  have lookX : (relabel sc X.env).names.lookup x = some .local := lookup_relabel_local lx
  have loop : ∀ s', (∃ (i : Nat) (o : Option V) (H' : Hp), Inv (cxC X sc cl s3.heap.objs.size x ks s3 H3 fp pins) [] (o :: selC ks σ) H' s' ∧ tn i s'.heap ∧ (∀ b ∈ fp, H' b = none) ∧ W i m0 H') →
      codeAny (model X.prog X.w) X.A (.compLoop (.ListComp elt [⟨.Name x px, iter, ifs, 0⟩] sc pos) 0 (.ref it) (.ref D) (compEnvC sc cl s3.heap.objs.size X.env)) (RR (.ref D) s3.heap.objs.size) s' := by
    intro s' hs'
    refine loop_comp (fun n s' => ∃ (i : Nat) (o : Option V) (H' : Hp), Inv (cxC X sc cl s3.heap.objs.size x ks s3 H3 fp pins) [] (o :: selC ks σ) H' s' ∧ tn i s'.heap ∧ (∀ b ∈ fp, H' b = none) ∧ W i n H') ?_ m0 hs'
    rintro n s5 ⟨i, o, H5, J5, t5, n5, w5⟩
    rcases turn i n H5 w5 with ⟨stop, hq⟩ | ⟨go, step⟩
    · refine thn (T.done (cxC X sc cl s3.heap.objs.size x ks s3 H3 fp pins) rfl rfl rfl hc i [] s5 _ H5 _ J5 (fX n5) t5 stop) fun r s6 ⟨hr, J6⟩ => ?_
      subst hr
      obtain ⟨m, hm, _⟩ := J6.loc
      exact hR D _ s6 H5 m (back J6) hq hm J6.free lC I3.sz cC pC
    · refine thn (T.item (cxC X sc cl s3.heap.objs.size x ks s3 H3 fp pins) rfl rfl rfl hc i [] s5 _ H5 _ J5 (fX n5) t5 go) fun r s6 ⟨u, hr, h6⟩ => ?_
      subst hr
      refine thn h6 fun _ s7 ⟨v, H7, J7, r7, y7, t7, n7⟩ => ?_
      have J7' := J7.pinned (fX n7) (T.obj _ _ t7)
      refine wpAny_assign_Name (store_ok (X := cxC X sc cl s3.heap.objs.size x ks s3 H3 fp pins) (i := 0) J7' nd rfl (.inl lookX) r7 (fun s8 J8 => ?_) (.inr lookX))
      refine thn (hcn cl s3.heap.objs.size s3 H3 fp pins _ s8 _ H7 _ J8 (step v H7 y7)) fun ok s8' ⟨H8, J8', q8⟩ => ?_
      cases ok with
      | false =>
        simp only [Bool.false_eq_true, if_false] at q8 ⊢
        obtain ⟨m', hm, w'⟩ := q8
        refine ⟨m', hm, i + 1, _, _, J8'.unpinned, ?_, ?_, w'⟩
        · exact T.keep _ _ _ t7 fun b hb o e => (J8'.pin (b, o) (List.mem_append_right _ (List.mem_append_right _ (mem_pinsAt hb e)))).1
        · intro b hb
          obtain ⟨o, e, d⟩ := T.obj _ _ t7 b hb
          exact (J8'.pin (b, o) (List.mem_append_right _ (List.mem_append_right _ (mem_pinsAt hb e)))).2.1
      | true =>
        simp only [if_true] at q8 ⊢
        refine thn (he cl s3.heap.objs.size s3 H3 fp pins _ s8' _ H8 _ J8' q8) fun y s9 ⟨vy, H9, J9, r9, ys, hys, hz, m', hm, w'⟩ => ?_
        refine thn (mt_append (X := cxC X sc cl s3.heap.objs.size x ks s3 H3 fp pins) _ s9 _ H9 (.ref D) [vy] (.ref D) [y] (fun _ H' => H' = upd H9 D (.lst (ys ++ [vy]))) J9 rfl (.cons r9 .nil) ⟨D, ys, vy, rfl, rfl, hys, hz, rfl⟩) fun _ s10 ⟨_, H10, J10, _, eH⟩ => ?_
        subst eH
        refine ⟨m', hm, i + 1, _, _, J10.unpinned, ?_, ?_, w'⟩
        · exact T.keep _ _ _ t7 fun b hb o e => (J10.pin (b, o) (List.mem_append_right _ (List.mem_append_right _ (mem_pinsAt hb e)))).1
        · intro b hb
          obtain ⟨o, e, d⟩ := T.obj _ _ t7 b hb
          exact (J10.pin (b, o) (List.mem_append_right _ (List.mem_append_right _ (mem_pinsAt hb e)))).2.1
  have l0 := loop _ ⟨0, none, H3, J0, st4, fun b hb => (f3 b hb).1, w0⟩
  exact codeAny_compStart_list l0 (T.self _ 0 _ _ _ st4 l0)
theorem osc_free {sc osc : Scope} {N : List Str} {x : Str} {ks : List (Str × Nat)} (ok : CompOk sc osc N x ks) {pins : List (Addr × Obj)} {σ : L2.St} {H : Hp} {s : Shared} (I : Inv X pins σ H s) (ho : X.env.scope = osc) : ∀ y ∈ sc.names, y.2 = .free → ∃ c, X.env.cells.lookup y.1 = some c := fun y hy hf =>
  I.ok.has y.1 (.inl (by show X.env.scope.names.lookup y.1 = some .cell; rw [ho]; exact ok.2.2.2.2.1 y hy hf))
theorem pe_lcF {elt iter : Expr} {ifs : List Expr} {x : Str} {px : Pos} {sc : Scope} {pos : Pos} {wi : TI} {te : TE} {tc : TT} (osc : Scope) (N : List Str) (ks : List (Str × Nat)) (hc : X.calm = true) (ho : X.env.scope = osc) (hN : X.N = N) (hi : PI X (.Name x px) iter wi)
    (he : ∀ cl C s₀ H₀ fp pins, PE (cxC X sc cl C x ks s₀ H₀ fp pins) elt te) (hcn : ∀ cl C s₀ H₀ fp pins, PTs (cxC X sc cl C x ks s₀ H₀ fp pins) ifs tc) (ok : CompOk sc osc N x ks := by decide +kernel) (hs : ∀ x, foldedSetIterable iter X.env x = pure x := by intro _; rfl) :
    PE X (.ListComp elt [⟨.Name x px, iter, ifs, 0⟩] sc pos) (tLCF wi ks tc te) := by
  intro pins s σ H Q I hw
  obtain ⟨cl, hcl, h1, h2⟩ := closure_at (osc_free ok I ho)
  have ok' : CompOk sc X.env.scope X.N x ks := by rw [ho, hN]; exact ok
  rw [eval_ListComp]
  refine wpAny_comprehension_free (use := none) rfl hs hcl ok.1 ok.2.2.2.1 (thn (hi pins s σ H _ I hw) fun v s1 h3 => thn h3 fun itv s2 h4 => ?_)
  obtain ⟨it, fp, tn, J, H2, rfl, I2, T, st2, f2, hR⟩ := h4
  refine run_comp (RR := fun acc C => compPost (model X.prog X.w) X.A X.xe none (EP X pins σ Q) acc C) hc ok' h1 h2 he hcn I2 T st2 f2 hR ?_
  intro D C s' H' m J' q hn hC cl' cs cc cp
  refine ⟨m, hn, fun h' hsb => ⟨.ref D, H', ?_, rfl, q⟩⟩
  exact J'.turned (t' := s'.toks) (it := C) (fun b o ne e => hsb.extBut b o ne e) hC cl' (.inr cs) cc cp
def tLCsF (wi : TI) (ks : List (Str × Nat)) (tc : TT) (te : TE) (i : Nat) : TS := fun D σ H => tLCF wi ks tc te σ H fun v H1 => D.nx (σ.set i (some v)) H1
theorem ps_lcF {elt iter : Expr} {ifs : List Expr} {x y : Str} {px py : Pos} {sc : Scope} {pos spos : Pos} {wi : TI} {te : TE} {tc : TT} {i : Nat} (osc : Scope) (N : List Str) (ks : List (Str × Nat)) (hc : X.calm = true) (ho : X.env.scope = osc) (hN : X.N = N) (hnd : X.N.Nodup) (hy : X.N[i]? = some y) (hl : Loc X.env.scope y)
    (hi : PI X (.Name x px) iter wi) (he : ∀ cl C s₀ H₀ fp pins, PE (cxC X sc cl C x ks s₀ H₀ fp pins) elt te) (hcn : ∀ cl C s₀ H₀ fp pins, PTs (cxC X sc cl C x ks s₀ H₀ fp pins) ifs tc) (ok : CompOk sc osc N x ks := by decide +kernel) (hs : ∀ x, foldedSetIterable iter X.env x = pure x := by intro _; rfl)
    (hsw : swapsWith (.ListComp elt [⟨.Name x px, iter, ifs, 0⟩] sc pos) (some (.Name y py)) spos.line X.env = pure true := by rfl) (hf : X.fn y = true ∨ X.env.scope.names.lookup y = some .local := by first | exact .inl rfl | exact .inr rfl | assumption) :
    PS X (.Assign [.Name y py] (.ListComp elt [⟨.Name x px, iter, ifs, 0⟩] sc pos) spos) (tLCsF wi ks tc te i) := by
  intro pins s σ H Dn I hw
  obtain ⟨cl, hcl, h1, h2⟩ := closure_at (osc_free ok I ho)
  have ok' : CompOk sc X.env.scope X.N x ks := by rw [ho, hN]; exact ok
  rw [exec_Assign_Name_used _ _ _ _ hsw]
  refine wpAny_bind (wpAny_standAt (wpAny_bind ?_))
  show wpAny _ X.A (do let _ ← comprehension (.ListComp elt [⟨.Name x px, iter, ifs, 0⟩] sc pos) sc X.env _ (newList []) false (eval iter X.env) (some (assign (.Name y py) X.env))) _ _ s
  refine wpAny_bind (wpAny_mono (wpAny_comprehension_free (use := some (assign (.Name y py) X.env)) (Q := fun _ s' => SP X pins Dn .next s') rfl hs hcl ok.1 ok.2.2.2.1
    (thn (hi pins s σ H _ I hw) fun v s1 h3 => thn h3 fun itv s2 h4 => ?_)) (fun _ s' hq => wpAny_pure (wpAny_pure hq)) fun _ _ e => e)
  obtain ⟨it, fp, tn, J, H2, rfl, I2, T, st2, f2, hR⟩ := h4
  refine run_comp (Q := fun v H1 => Dn.nx (σ.set i (some v)) H1) (RR := fun acc C => compPost (model X.prog X.w) X.A X.xe (some (assign (.Name y py) X.env)) (fun _ s' => SP X pins Dn .next s') acc C) hc ok' h1 h2 he hcn I2 T st2 f2 hR ?_
  intro D C s' H' m J' q hn hC cl' cs cc cp
  show wpAny _ X.A (assign (.Name y py) X.env (.ref D)) _ _ _
  refine wpAny_assign_Name (store_ok2 J' hnd hy hl (v := .ref D) rfl (fun s'' J'' ⟨a, hsb, ha⟩ => ?_) hf)
  refine ⟨m, hn.sameBut hsb (fun z => ?_), fun h' hsb' => ⟨_, H', ?_, q⟩⟩
  · rcases ha with e | e
    · exact cl' (z.trans e)
    · exact cc _ _ e z.symm
  · exact J''.turned (t' := s''.toks) (it := C) (fun b o ne e => hsb'.extBut b o ne e) hC cl' (.inr cs) cc cp
def tLC (wi : TI) (ks : List (Str × Nat)) (te : TE) : TE := fun σ H Q => wi σ H fun J H1 => ∀ D, H1 D = none → ∃ W : Nat → Nat → Hp → Prop, (∃ m, W 0 m (upd H1 D (.lst []))) ∧
  ∀ i m H2, W i m H2 → (J.stop i H2 ∧ Q (.ref D) H2) ∨ (J.go i H2 ∧ ∀ v H3, J.yld i H2 v H3 → te (some v :: selC ks σ) H3 fun y H4 => ∃ ys, H4 D = some (.lst ys) ∧ ys.length < sizeLine ∧ ∃ m', m' < m ∧ W (i + 1) m' (upd H4 D (.lst (ys ++ [y]))))
theorem pe_lc {elt iter : Expr} {x : Str} {px : Pos} {sc : Scope} {pos : Pos} {wi : TI} {te : TE} (osc : Scope) (N : List Str) (ks : List (Str × Nat)) (hc : X.calm = true) (ho : X.env.scope = osc) (hN : X.N = N) (hi : PI X (.Name x px) iter wi)
    (he : ∀ cl C s₀ H₀ fp pins, PE (cxC X sc cl C x ks s₀ H₀ fp pins) elt te) (ok : CompOk sc osc N x ks := by decide +kernel) (hs : ∀ x, foldedSetIterable iter X.env x = pure x := by intro _; rfl) :
    PE X (.ListComp elt [⟨.Name x px, iter, [], 0⟩] sc pos) (tLC wi ks te) := fun pins s σ H Q I hw => pe_lcF osc N ks hc ho hN hi he (fun _ _ _ _ _ _ => pts_nil) ok hs pins s σ H Q I hw
def tLCs (wi : TI) (ks : List (Str × Nat)) (te : TE) (i : Nat) : TS := fun D σ H => tLC wi ks te σ H fun v H1 => D.nx (σ.set i (some v)) H1
theorem ps_lc {elt iter : Expr} {x y : Str} {px py : Pos} {sc : Scope} {pos spos : Pos} {wi : TI} {te : TE} {i : Nat} (osc : Scope) (N : List Str) (ks : List (Str × Nat)) (hc : X.calm = true) (ho : X.env.scope = osc) (hN : X.N = N) (hnd : X.N.Nodup) (hy : X.N[i]? = some y) (hl : Loc X.env.scope y)
    (hi : PI X (.Name x px) iter wi) (he : ∀ cl C s₀ H₀ fp pins, PE (cxC X sc cl C x ks s₀ H₀ fp pins) elt te) (ok : CompOk sc osc N x ks := by decide +kernel) (hs : ∀ x, foldedSetIterable iter X.env x = pure x := by intro _; rfl)
    (hsw : swapsWith (.ListComp elt [⟨.Name x px, iter, [], 0⟩] sc pos) (some (.Name y py)) spos.line X.env = pure true := by rfl) (hf : X.fn y = true ∨ X.env.scope.names.lookup y = some .local := by first | exact .inl rfl | exact .inr rfl | assumption) :
    PS X (.Assign [.Name y py] (.ListComp elt [⟨.Name x px, iter, [], 0⟩] sc pos) spos) (tLCs wi ks te i) := fun pins s σ H D I hw => ps_lcF osc N ks hc ho hN hnd hy hl hi he (fun _ _ _ _ _ _ => pts_nil) ok hs hsw hf pins s σ H D I hw
end
theorem lc_list {K : PySem.W.Frag} {a D : Addr} {xs : List V} {H : Hp} {te : TE} {ks : List (Str × Nat)} {σ : L2.St} {q : Hp → Prop} (Pv : Nat → Hp → Prop) (h0 : Pv 0 (upd H D (.lst []))) (hl : ∀ i H, i ≤ xs.length → Pv i H → SqL K H a xs)
    (hs : ∀ i x H (R : VK), xs[i]? = some x → Pv i H → (∀ y H4 ys, H4 D = some (.lst ys) → ys.length < sizeLine → Pv (i + 1) (upd H4 D (.lst (ys ++ [y]))) → R y H4) → te (some x :: selC ks σ) H R) (hd : ∀ H, Pv xs.length H → q H) :
    ∃ W : Nat → Nat → Hp → Prop, (∃ m, W 0 m (upd H D (.lst []))) ∧ ∀ i m H2, W i m H2 → ((Itl K a).stop i H2 ∧ q H2) ∨
      ((Itl K a).go i H2 ∧ ∀ v H3, (Itl K a).yld i H2 v H3 → te (some v :: selC ks σ) H3 fun y H4 => ∃ ys, H4 D = some (.lst ys) ∧ ys.length < sizeLine ∧ ∃ m', m' < m ∧ W (i + 1) m' (upd H4 D (.lst (ys ++ [y])))) := by
  refine ⟨fun i m H => m = xs.length - i ∧ i ≤ xs.length ∧ Pv i H, ⟨xs.length, by simp, Nat.zero_le _, h0⟩, ?_⟩
  rintro i m H2 ⟨rfl, hi, p⟩
  have hq := hl i H2 hi p
  by_cases hlt : i < xs.length
  · refine .inr ⟨⟨xs, xs[i], hq, by simp [hlt]⟩, fun v H3 y => ?_⟩
    obtain ⟨e, y⟩ := y
    subst e
    exact hs i v _ _ (y xs hq) p fun y H4 ys e1 e2 e3 => ⟨ys, e1, e2, xs.length - (i + 1), by omega, rfl, hlt, e3⟩
  · have e : i = xs.length := by omega
    subst e
    exact .inl ⟨⟨xs, hq, Nat.le_refl _⟩, hd H2 p⟩
theorem lc_range {lo : Int} {n : Nat} {D : Addr} {H : Hp} {te : TE} {ks : List (Str × Nat)} {σ : L2.St} {q : Hp → Prop} (Pv : Nat → Hp → Prop) (h0 : Pv 0 (upd H D (.lst [])))
    (hs : ∀ i H (R : VK), i < n → Pv i H → (∀ y H4 ys, H4 D = some (.lst ys) → ys.length < sizeLine → Pv (i + 1) (upd H4 D (.lst (ys ++ [y]))) → R y H4) → te (some (.int (lo + i)) :: selC ks σ) H R) (hd : ∀ H, Pv n H → q H) :
    ∃ W : Nat → Nat → Hp → Prop, (∃ m, W 0 m (upd H D (.lst []))) ∧ ∀ i m H2, W i m H2 → ((Itr lo n).stop i H2 ∧ q H2) ∨
      ((Itr lo n).go i H2 ∧ ∀ v H3, (Itr lo n).yld i H2 v H3 → te (some v :: selC ks σ) H3 fun y H4 => ∃ ys, H4 D = some (.lst ys) ∧ ys.length < sizeLine ∧ ∃ m', m' < m ∧ W (i + 1) m' (upd H4 D (.lst (ys ++ [y])))) := by
  refine ⟨fun i m H => m = n - i ∧ i ≤ n ∧ Pv i H, ⟨n, by simp, Nat.zero_le _, h0⟩, ?_⟩
  rintro i m H2 ⟨rfl, hi, p⟩
  by_cases hlt : i < n
  · refine .inr ⟨hlt, fun v H3 y => ?_⟩
    obtain ⟨e, y⟩ := y
    subst e y
    exact hs i _ _ hlt p fun y H4 ys e1 e2 e3 => ⟨ys, e1, e2, n - (i + 1), by omega, rfl, hlt, e3⟩
  · have e : i = n := by omega
    subst e
    exact .inl ⟨Nat.le_refl _, hd H2 p⟩
def one (c : Nat) : Str := ⟨#[c]⟩
theorem join_fold : ∀ (cs : List Nat) (acc : Array Nat), (cs.map one).foldl (fun acc (p : Str) => acc ++ (Str.ofString "").cps ++ p.cps) acc = acc ++ cs.toArray
  | [], acc => by simp
  | c :: cs, acc => by
    have e : (Str.ofString "").cps = #[] := by decide +kernel
    rw [List.map_cons, List.foldl_cons, join_fold cs]
    rw [e]
    show (acc ++ #[] ++ #[c]) ++ cs.toArray = _
    simp
theorem join_ones (cs : List Nat) : Txt.join (Str.ofString "") (cs.map one) = ⟨cs.toArray⟩ := by
  unfold Txt.join Builtin.Str.glued
  cases cs with
  | nil => rfl
  | cons c cs =>
    simp only [List.map_cons, List.drop_succ_cons, List.drop_zero, List.headD_cons]
    rw [join_fold]
    show (⟨#[c] ++ cs.toArray⟩ : Str) = _
    simp
theorem strsAre_of : ∀ {ys : List Str} {us : List Value}, Vals (ys.map V.str) us → StrsAre us ys
  | [], _, .nil => .nil
  | y :: ys, _, .cons r rr => by
    obtain ⟨t, rfl⟩ := r
    exact .cons y t (strsAre_of rr)
section
variable {X : Cx}
def rJoin (K : PySem.W.Frag) : V → List V → Hp → VK → Prop := fun x vs H Q => ∃ z p ys, x = .str z ∧ vs = [.ref p] ∧ SqL K H p (ys.map V.str) ∧ (ys.map (·.length)).sum + ys.length * z.length ≤ 16777216 ∧ Q (.str (Txt.join z ys)) H
theorem mt_join : MtR X "str.join" (rJoin X.K) := by
  intro pins s σ H x vs v us Q I rx rv h
  obtain ⟨z, p, ys, rfl, rfl, hp, hz, q⟩ := h
  obtain ⟨t, rfl⟩ := rx
  obtain ⟨u, rfl, ru⟩ := vals1 rv
  cases ru
  obtain ⟨its, r, pl, _⟩ := I.list hp
  exact join_list pl.isList (by simpa using strsAre_of r) hz fun t' k => ⟨.str _, H, I.tok _, ⟨_, rfl⟩, q⟩
end
def constV : Expr → Option V
  | .Constant (.int i) _ _ => some (.int i)
  | .Constant (.str x) _ _ => some (.str x)
  | .Constant (.bool b) _ _ => some (.bl b)
  | _ => none
theorem pa_const {X : Cx} : ∀ {es : List Expr} (vs : List V), es.map constV = vs.map some → PA X es (fun _ H Q => Q vs H)
  | [], [], _ => fun _ _ _ _ H Q I h => Calls.spliced_nil ⟨[], H, I, .nil, h⟩
  | [], _ :: _, h => by cases h
  | _ :: _, [], h => by cases h
  | e :: es, v :: vs, h => by
    rw [List.map_cons, List.map_cons] at h
    injection h with h1 h2
    have ih := pa_const (X := X) (es := es) vs h2
    have hs : starEach (e :: es) X.env = (false, eval e X.env) :: starEach es X.env := by
      cases e <;> first | rfl | cases h1
    have he : PE X e (tC v) := by
      cases e with
      | Constant c j pos =>
        cases c with
        | int i => cases h1; exact pe_int
        | str x => cases h1; exact pe_str
        | bool b => cases h1; exact pe_bl
        | _ => cases h1
      | _ => cases h1
    exact fun pos pins s σ H Q I hq => pa_cons he ih hs pos pins s σ H Q I hq
end Ov
set_option Elab.async false
set_option linter.all false
set_option maxRecDepth 100000
namespace Ov
open PySem PySem.Spec PyProof.Rows
open L2 (V HO Hp Inv Cx St VK TE TT TA TS TG TGs TI TO TSet Ends Vis Loc Gl Rd RelV Vals OpR UnR CallR IxR SlR MtR PSet R2 tVar tC tOp tUn tTest tB tAnd tOr tNot tAndV tOrV tNotV tIf tTup tLst tNil tCons tCB tCall tBM tAsg tPar gName gNil gCons gTup gSub tIfS tWhile tFor iList iTup iRng1 iRng2 tRet tRetN tDrop tCont tBreak tNext tSeq tNever tNoPart tPart tSl upd E0 Room PlainIx)
structure QE (X : Cx) (e : Expr) (t : TE) : Prop where
  run : L2.PE X e t
structure QT (X : Cx) (e : Expr) (t : TT) : Prop where
  run : L2.PT X e t
structure QW (X : Cx) (e : Expr) (t : TT) : Prop where
  run : L2.PW X e t
structure QA (X : Cx) (es : List Expr) (t : TA) : Prop where
  run : L2.PA X es t
structure QS (X : Cx) (st : Stmt) (t : TS) : Prop where
  run : L2.PS X st t
structure QB (X : Cx) (st : List Stmt) (t : TS) : Prop where
  run : L2.PSs X st t
structure QG (X : Cx) (e : Expr) (t : TG) : Prop where
  run : L2.PG X e t
structure QGs (X : Cx) (es : List Expr) (t : TGs) : Prop where
  run : L2.PGs X es t
structure QI (X : Cx) (tg e : Expr) (t : TI) : Prop where
  run : L2.PI X tg e t
structure QO (X : Cx) (e : Option Expr) (t : TO) : Prop where
  run : L2.PO X e t
section
variable {X : Cx} {a b c e o : Expr} {es rest : List Expr} {ta tb te tc to : TE} {tA tB' : TT} {t : TA} {pos px p p2 apos cpos : Pos} {x : Str} {i j : Nat}
theorem pv (i : Nat) {x : Str} {pos : Pos} (hN : X.N[i]? = some x := by rfl) (hv : Vis X.env.scope x := by first | exact Or.inl rfl | exact Or.inr (Or.inl rfl) | exact Or.inr (Or.inr rfl)) (hd : (x == ("__debug__" : Str)) = false := by decide)
    (hcd : (x == ("__classdict__" : Str)) = false := by decide) : QE X (.Name x pos) (tVar i) := ⟨L2.pe_var hN hv hd hcd⟩
theorem pe_int {i : Int} {j pos} : QE X (.Constant (.int i) j pos) (tC (.int i)) := ⟨L2.pe_int⟩
theorem pe_bl {b : Bool} {j pos} : QE X (.Constant (.bool b) j pos) (tC (.bl b)) := ⟨L2.pe_bl⟩
theorem pe_str {x : Str} {j pos} : QE X (.Constant (.str x) j pos) (tC (.str x)) := ⟨L2.pe_str⟩
theorem pe_glob {v : V} {u : Value} (hg : Gl X x) (hm : X.mg x = some u) (r : RelV v u) (hd : (x == ("__debug__" : Str)) = false := by decide) : QE X (.Name x pos) (tC v) := ⟨L2.pe_glob hg hm r hd⟩
theorem pe_bltn {v : V} {u : Value} (hg : Gl X x) (hm : X.mg x = none) (hv : bootBuiltins x = some u) (r : RelV v u) (hn : x ≠ "__name__" := by decide) (hd : (x == ("__debug__" : Str)) = false := by decide) : QE X (.Name x pos) (tC v) := ⟨L2.pe_bltn hg hm hv r hn hd⟩
theorem pe_op {op : Operator} {r : R2} (ho : OpR X (binaryOp op) r) (ha : QE X a ta) (hb : QE X b tb) : QE X (.BinOp a op b pos) (tOp r ta tb) := ⟨L2.pe_op ho ha.run hb.run⟩
theorem pe_cmpR {op : CmpOp} {r : R2} (ho : OpR X (compareOp op) r) (ha : QE X a ta) (hb : QE X b tb) (hm : behindInMarks op b = false) : QE X (.Compare a [op] [b] pos) (tOp r ta tb) := ⟨L2.pe_cmpR ho ha.run hb.run hm⟩
theorem pt_cmpR {op : CmpOp} {r : R2} (ho : OpR X (compareOp op) r) (ha : QE X a ta) (hb : QE X b tb) (hm : behindInMarks op b = false) : QT X (.Compare a [op] [b] pos) (tTest (tOp r ta tb)) := ⟨L2.pt_cmpR ho ha.run hb.run hm⟩
theorem pe_one {op} (h : QE X a ta) : QE X (.BoolOp op [a] pos) ta := ⟨L2.pe_one h.run⟩
theorem pe_and (ha : QE X a ta) (hb : QE X (.BoolOp .And (b :: rest) pos) tb) : QE X (.BoolOp .And (a :: b :: rest) pos) (tAndV ta tb) := ⟨L2.pe_and ha.run hb.run⟩
theorem pe_not (ha : QE X a ta) : QE X (.UnaryOp .Not a pos) (tNotV ta) := ⟨L2.pe_not ha.run⟩
theorem pt_not (ha : QT X a tA) : QT X (.UnaryOp .Not a pos) (tNot tA) := ⟨L2.pt_not ha.run⟩
theorem pw_and1 (ha : QT X a tA) : QW X (.BoolOp .And [a] pos) tA := ⟨L2.pw_and1 ha.run⟩
theorem pw_or1 (ha : QT X a tA) : QW X (.BoolOp .Or [a] pos) tA := ⟨L2.pw_or1 ha.run⟩
theorem pw_and (ha : QT X a tA) (hb : QW X (.BoolOp .And (b :: rest) pos) tB') : QW X (.BoolOp .And (a :: b :: rest) pos) (tAnd tA tB') := ⟨L2.pw_and ha.run hb.run⟩
theorem pw_or (ha : QT X a tA) (hb : QW X (.BoolOp .Or (b :: rest) pos) tB') : QW X (.BoolOp .Or (a :: b :: rest) pos) (tOr tA tB') := ⟨L2.pw_or ha.run hb.run⟩
theorem pw_pt (h : QW X e tA) : QT X e tA := ⟨h.run.pt⟩
theorem pt_val (h : QE X e te) (he : ∀ whole, isTrue e X.env whole = (do let v ← whole; standAt e.pos; holding [v] (truthy v)) := by intro _; rfl) : QT X e (tB te) := ⟨L2.pt_val h.run he⟩
theorem pe_ifExp (hc : QT X c tA) (ha : QE X a ta) (hb : QE X b tb) : QE X (.IfExp c a b pos) (tIf tA ta tb) := ⟨L2.pe_ifExp hc.run ha.run hb.run⟩
theorem pa_nil : QA X [] tNil := ⟨L2.pa_nil⟩
theorem pa_cons (ha : QE X e te) (hr : QA X es t) (hs : starEach (e :: es) X.env = (false, eval e X.env) :: starEach es X.env := by rfl) : QA X (e :: es) (tCons te t) := ⟨L2.pa_cons ha.run hr.run hs⟩
theorem pa_cst {es : List Expr} (vs : List V) (h : es.map constV = vs.map some) : QA X es (fun _ H Q => Q vs H) := ⟨pa_const vs h⟩
theorem pe_tup {x1} (h : QA X es t) : QE X (.Tuple es x1 pos) (tTup t) := ⟨L2.pe_tup h.run⟩
theorem pe_lst (h : QA X es t) : QE X (.List es pos) (tLst t) := ⟨L2.pe_lst h.run⟩
theorem pe_ix {r : R2} (hr : IxR X r) (ha : QE X a ta) (hb : QE X b tb) (hs : PlainIx b) : QE X (.Subscript a b pos) (tOp r ta tb) := ⟨L2.pe_ix hr ha.run hb.run hs⟩
theorem po_none : QO X none tNoPart := ⟨L2.po_none⟩
theorem po_some (h : QE X e te) : QO X (some e) (tPart te) := ⟨L2.po_some h.run⟩
theorem pe_slice {lo hi : Option Expr} {tl th : TO} {r : V → Option Int → Option Int → Hp → VK → Prop} (hr : SlR X r) (he : QE X e te) (hl : QO X lo tl) (hu : QO X hi th) : QE X (.Subscript e (.Slice lo hi none p2) pos) (tSl r te tl th) := ⟨L2.pe_slice hr he.run hl.run hu.run⟩
theorem pe_callB {id : String} {r : List V → Hp → VK → Prop} (hc : CallR X (.builtin id) r) (hg : Gl X x) (hm : X.mg x = none) (hv : bootBuiltins x = some (.builtin id)) (ha : QA X (e :: es) t) (hn : x ≠ "__name__" := by decide) (hdb : (x == ("__debug__" : Str)) = false := by decide)
    (he : starEach (e :: es) X.env = (false, eval e X.env) :: starEach es X.env := by rfl) (hpl : (backTo pos (starEach es X.env)).any (·.1) = false := by rfl) : QE X (.Call (.Name x p) (e :: es) [] pos) (tCB r t) := ⟨L2.pe_callB hc hg hm hv ha.run hn hdb he hpl⟩
theorem pe_callTy {T : String} {r : List V → Hp → VK → Prop} (hc : CallR X (.type T) r) (hg : Gl X x) (hm : X.mg x = none) (hv : bootBuiltins x = some (.type T)) (ha : QA X (e :: es) t) (hn : x ≠ "__name__" := by decide) (hdb : (x == ("__debug__" : Str)) = false := by decide)
    (he : starEach (e :: es) X.env = (false, eval e X.env) :: starEach es X.env := by rfl) (hpl : (backTo pos (starEach es X.env)).any (·.1) = false := by rfl) : QE X (.Call (.Name x p) (e :: es) [] pos) (tCB r t) := ⟨L2.pe_callTy hc hg hm hv ha.run hn hdb he hpl⟩
theorem pe_fn {k k' : Nat} {ps : List Str} {sp : L2.Sp} (C : Can X.prog X.w X.K X.mg X.base k x ps sp) (hr : Room k' X.A) (hk : k ≤ k') (hg : Gl X x) (ha : QA X (e :: es) t)
    (hdb : (x == ("__debug__" : Str)) = false := by decide) (he : starEach (e :: es) X.env = (false, eval e X.env) :: starEach es X.env := by rfl) (hpl : (backTo pos (starEach es X.env)).any (·.1) = false := by rfl) :
    QE X (.Call (.Name x p) (e :: es) [] pos) (tCall sp [] E0 t) := ⟨pe_can C hr hk hg ha.run hdb he hpl⟩
theorem pe_bm {name : Str} {T id : String} {r : V → List V → Hp → VK → Prop} (pa : PlainAttrs T) (slot : Slot T name id) (hty : typeOf (.builtin id) = pure (.type "method_descriptor")) (hm : MtR X id r) (ho : QE X o to) (ha : QA X (e :: es) t)
    (hbase : attributeBase o name X.env (eval o X.env) = eval o X.env := by rfl)
    (hfew : ((backTo cpos (starEach (e :: es) X.env)).all (fun x => !x.1) && (backToKw cpos (keywordEach [] X.env)).all (fun x => x.1.isSome)
      && decide ((e :: es).length + ([] : List Keyword).length + (if ([] : List Keyword).isEmpty then 0 else 1) < 30)) = true := by rfl)
    (hline : (apos.endLine == cpos.line) = true := by rfl) (hs : starEach (e :: es) X.env = (false, eval e X.env) :: starEach es X.env := by rfl) (hplain : (backTo cpos (starEach es X.env)).any (·.1) = false := by rfl) :
    QE X (.Call (.Attribute o name apos) (e :: es) [] cpos) (tBM X.K T r to t) := ⟨L2.pe_bm pa slot hty hm ho.run ha.run hbase hfew hline hs hplain⟩
end
section
variable {X : Cx} {st : Stmt} {rest : List Stmt} {t u : TS} {e tg : Expr} {es : List Expr} {te : TE} {pos : Pos} {g : TG}
theorem pss_nil : QB X [] tNext := ⟨L2.pss_nil⟩
theorem pss_cons (h1 : QS X st t) (h2 : QB X rest u) : QB X (st :: rest) (tSeq t u) := ⟨L2.pss_cons h1.run h2.run⟩
theorem pss_one (h1 : QS X st t) : QB X [st] t := ⟨L2.pss_one h1.run⟩
theorem pss_join (h1 : QS X st t) (h2 : QB X rest u) : QB X (st :: rest) (tCut t u) := ⟨pss_cut h1.run h2.run⟩
theorem ps_expr (he : QE X e te) (hs : swapsWith e none pos.line X.env = pure false := by rfl) : QS X (.Expr e pos) (tDrop te) := ⟨L2.ps_expr he.run hs⟩
theorem ps_ret (he : QE X e te) : QS X (.Return (some e) pos) (tRet te) := ⟨L2.ps_ret he.run⟩
theorem ps_if {c : Expr} {a b : List Stmt} {tc : TT} (hc : QT X c tc) (ha : QB X a t) (hb : QB X b u) : QS X (.If c a b pos) (tIfS tc t u) := ⟨L2.ps_if hc.run ha.run hb.run⟩
theorem ps_while {c : Expr} {body : List Stmt} {tc : TT} {tb : TS} (hp : PassesOwn (model X.prog X.w) X.A X.env X.xe) (hc : QT X c tc) (hb : QB X body tb) : QS X (.While c body [] pos) (tWhile tc tb) := ⟨L2.ps_while hp hc.run hb.run⟩
theorem pg_name {i : Nat} {x : Str} (hN : X.N.Nodup) (hi : X.N[i]? = some x) (hx : Loc X.env.scope x) (hf : X.fn x = true ∨ X.env.scope.names.lookup x = some .local := by first | exact .inl rfl | exact .inr rfl | assumption) : QG X (.Name x pos) (gName i) := ⟨L2.pg_name hN hi hx hf⟩
theorem pgs_nil : QGs X [] gNil := ⟨L2.pgs_nil⟩
theorem pgs_cons {e : Expr} {es : List Expr} {t : TG} {u : TGs} (h1 : QG X e t) (h2 : QGs X es u)
    (hs : (assignEach (e :: es) X.env).map (·.2) = assign e X.env :: (assignEach es X.env).map (·.2) := by rfl) : QGs X (e :: es) (gCons t u) := ⟨L2.pgs_cons h1.run h2.run hs⟩
theorem pg_tup {k : Nat} {t : TGs} {n : Nat} (hc : X.calm = true) (h : QGs X es t)
    (hn : (assignEach es X.env).length = n := by rfl) (hst : (assignEach es X.env).findIdx? (·.1) = none := by rfl) : QG X (.Tuple es k pos) (gTup X.K n t) := ⟨L2.pg_tup hc h.run hn hst⟩
theorem pg_sub {o i : Expr} {to ti : TE} {t : TSet} (ho : QE X o to) (hi : QE X i ti) (hs : PSet X t)
    (ha : ∀ v, assign (.Subscript o i pos) X.env v = (do
      let ov ← holding [v] (eval o X.env)
      let iv ← holding [v, ov] (eval i X.env)
      standAt pos
      holding [v, ov, iv] (setItem ov iv v)
      release [v, ov, iv] []) := by intro _; rfl) : QG X (.Subscript o i pos) (gSub to ti t) := ⟨L2.pg_sub ho.run hi.run hs ha⟩
theorem ps_asg {tg e : Expr} (he : QE X e te) (hg : QG X tg g) (hs : swapsWithSole [tg] e pos.line X.env = pure false := by rfl) (hw : swappedStores [tg] e X.env = pure none := by rfl)
    (h1 : (assignEach [tg] X.env).map (·.2) = [assign tg X.env] := by rfl) : QS X (.Assign [tg] e pos) (tAsg te g) := ⟨L2.ps_asg he.run hg.run hs hw h1⟩
theorem ps_set {i : Nat} {x : Str} {pos' : Pos} (hN : X.N.Nodup) (hi : X.N[i]? = some x) (hx : Loc X.env.scope x) (he : QE X e te) (hs : swapsWith e (some (.Name x pos')) pos.line X.env = pure false := by rfl) (hf : X.fn x = true ∨ X.env.scope.names.lookup x = some .local := by first | exact .inl rfl | exact .inr rfl | assumption) :
    QS X (.Assign [.Name x pos'] e pos) (tAsg te (gName i)) := ⟨L2.ps_set hN hi hx he.run hs hf⟩
theorem ps_par {i j : Nat} {x y : Str} {a b : Expr} {ta : TA} {px py pt : Pos} {kt k2 pt2} (hc : X.calm = true) (hN : X.N.Nodup) (hi : X.N[i]? = some x) (hj : X.N[j]? = some y) (hij : i ≠ j)
    (hx : X.env.scope.names.lookup x = some .local) (hy : X.env.scope.names.lookup y = some .local) (ha : QA X [a, b] ta)
    (hw : swappedStores [.Tuple [.Name x px, .Name y py] kt pt] (.Tuple [a, b] k2 pt2) X.env = pure (some [x, y]))
    (hs : swapsWithSole [.Tuple [.Name x px, .Name y py] kt pt] (.Tuple [a, b] k2 pt2) pos.line X.env = pure false := by rfl) :
    QS X (.Assign [.Tuple [.Name x px, .Name y py] kt pt] (.Tuple [a, b] k2 pt2) pos) (tPar i j ta) := ⟨L2.ps_par hc hN hi hj hij hx hy ha.run hw hs⟩
theorem pi_list {l : Expr} {tl : TE} (hl : QE X l tl) : QI X tg l (iList X.K tl) := ⟨L2.pi_list hl.run⟩
theorem pi_tup {l : Expr} {tl : TE} (hl : QE X l tl) : QI X tg l (iTup X.K tl) := ⟨L2.pi_tup hl.run⟩
theorem pi_range1 {a : Expr} {ta : TA} {p pos : Pos} (hg : Gl X "range") (hm : X.mg "range" = none) (ha : QA X [a] ta) (hs : starEach [a] X.env = [(false, eval a X.env)] := by rfl) : QI X tg (.Call (.Name "range" p) [a] [] pos) (iRng1 ta) := ⟨L2.pi_range1 hg hm ha.run hs⟩
theorem pi_range2 {a b : Expr} {ta : TA} {p pos : Pos} (hg : Gl X "range") (hm : X.mg "range" = none) (ha : QA X [a, b] ta) (hs : starEach [a, b] X.env = [(false, eval a X.env), (false, eval b X.env)] := by rfl) (hs2 : starEach [b] X.env = [(false, eval b X.env)] := by rfl) :
    QI X tg (.Call (.Name "range" p) [a, b] [] pos) (iRng2 ta) := ⟨L2.pi_range2 hg hm ha.run hs hs2⟩
theorem ps_for {iter : Expr} {body : List Stmt} {wi : TI} {g : TG} {tb : TS} {pos : Pos} (hp : PassesOwn (model X.prog X.w) X.A X.env X.xe) (hc : X.calm = true) (hi : QI X tg iter wi) (hg : QG X tg g) (hb : QB X body tb)
    (hs : ∀ x, foldedSetIterable iter X.env x = pure x := by intro _; rfl) : QS X (.For tg iter body [] pos) (tFor wi g tb) := ⟨L2.ps_for hp hc hi.run hg.run hb.run hs⟩
theorem pe_comp {elt iter : Expr} {x : Str} {px : Pos} {sc : Scope} {pos : Pos} {wi : TI} (osc : Scope) (N : List Str) (ks : List (Str × Nat)) (hc : X.calm = true) (ho : X.env.scope = osc) (hN : X.N = N) (hi : QI X (.Name x px) iter wi)
    (he : ∀ cl C s₀ H₀ fp pins, QE (cxC X sc cl C x ks s₀ H₀ fp pins) elt te) (ok : CompOk sc osc N x ks := by decide +kernel) (hs : ∀ x, foldedSetIterable iter X.env x = pure x := by intro _; rfl) :
    QE X (.ListComp elt [⟨.Name x px, iter, [], 0⟩] sc pos) (tLC wi ks te) := ⟨pe_lc osc N ks hc ho hN hi.run (fun cl C s₀ H₀ fp pins => (he cl C s₀ H₀ fp pins).run) ok hs⟩
theorem ps_comp {elt iter : Expr} {x y : Str} {px py : Pos} {sc : Scope} {pos spos : Pos} {wi : TI} {i : Nat} (osc : Scope) (N : List Str) (ks : List (Str × Nat)) (hc : X.calm = true) (ho : X.env.scope = osc) (hN : X.N = N) (hnd : X.N.Nodup) (hy : X.N[i]? = some y) (hl : Loc X.env.scope y)
    (hi : QI X (.Name x px) iter wi) (he : ∀ cl C s₀ H₀ fp pins, QE (cxC X sc cl C x ks s₀ H₀ fp pins) elt te) (ok : CompOk sc osc N x ks := by decide +kernel) (hs : ∀ x, foldedSetIterable iter X.env x = pure x := by intro _; rfl)
    (hsw : swapsWith (.ListComp elt [⟨.Name x px, iter, [], 0⟩] sc pos) (some (.Name y py)) spos.line X.env = pure true := by rfl) (hf : X.fn y = true ∨ X.env.scope.names.lookup y = some .local := by first | exact .inl rfl | exact .inr rfl | assumption) :
    QS X (.Assign [.Name y py] (.ListComp elt [⟨.Name x px, iter, [], 0⟩] sc pos) spos) (tLCs wi ks te i) := ⟨ps_lc osc N ks hc ho hN hnd hy hl hi.run (fun cl C s₀ H₀ fp pins => (he cl C s₀ H₀ fp pins).run) ok hs hsw hf⟩
end
end Ov
set_option Elab.async false
set_option linter.all false
set_option maxRecDepth 100000
namespace Ov
open PySem PySem.Spec PyProof.Rows
open L2 (V HO Hp Inv Cx VK TE TA Vals RelV OpR CallR SqL R2 upd EP vals1 intsAre_of Gl)
section
variable {X : Cx}
end
end Ov
set_option Elab.async false
set_option linter.all false
set_option maxRecDepth 100000
namespace Ov
open PySem PySem.Spec PyProof.Rows
open L2 (V HO Hp Inv Cx VK TE TA Vals RelV OpR CallR SqL SqT R2 upd Same)
inductive Py where
  | non | bl (b : Bool) | int (i : Int) | str (x : Str) | tup (xs : List Py) | lst (xs : List Py)
mutual
def At (K : PySem.W.Frag) (H : Hp) : Py → V → Prop
  | .non, v => v = .non
  | .bl b, v => v = .bl b
  | .int i, v => v = .int i
  | .str x, v => v = .str x
  | .tup xs, v => ∃ a vs, v = .ref a ∧ SqT K H a vs ∧ Ats K H xs vs
  | .lst xs, v => ∃ a vs, v = .ref a ∧ SqL K H a vs ∧ Ats K H xs vs
def Ats (K : PySem.W.Frag) (H : Hp) : List Py → List V → Prop
  | [], vs => vs = []
  | x :: xs, vs => ∃ v us, vs = v :: us ∧ At K H x v ∧ Ats K H xs us
end
mutual
def eqP : Py → Py → Bool
  | .non, .non => true
  | .bl a, .bl b => a == b
  | .int a, .int b => a == b
  | .bl a, .int b => (if a then 1 else 0) == b
  | .int a, .bl b => a == (if b then 1 else 0)
  | .str a, .str b => a == b
  | .tup xs, .tup ys => eqPs xs ys
  | .lst xs, .lst ys => eqPs xs ys
  | _, _ => false
def eqPs : List Py → List Py → Bool
  | [], [] => true
  | x :: xs, y :: ys => eqP x y && eqPs xs ys
  | _, _ => false
end
mutual
def dep : Py → Nat
  | .tup xs => deps xs + 1
  | .lst xs => deps xs + 1
  | _ => 0
def deps : List Py → Nat
  | [] => 0
  | x :: xs => max (dep x) (deps xs)
end
mutual
theorem eqP_self : ∀ x : Py, eqP x x = true
  | .non => rfl
  | .bl b => by simp [eqP]
  | .int b => by simp [eqP]
  | .str b => by simp [eqP]
  | .tup xs => by simpa [eqP] using eqPs_self xs
  | .lst xs => by simpa [eqP] using eqPs_self xs
theorem eqPs_self : ∀ xs : List Py, eqPs xs xs = true
  | [] => rfl
  | x :: xs => by simp [eqPs, eqP_self x, eqPs_self xs]
end
mutual
theorem At.same {K : PySem.W.Frag} {H H' : Hp} (e : Same H H') : ∀ {x : Py} {v : V}, At K H x v → At K H' x v
  | .non, _, h => h
  | .bl _, _, h => h
  | .int _, _, h => h
  | .str _, _, h => h
  | .tup xs, _, ⟨a, vs, e1, h, k⟩ => ⟨a, vs, e1, e.tup h, Ats.same e k⟩
  | .lst xs, _, ⟨a, vs, e1, h, k⟩ => ⟨a, vs, e1, e.seq h, Ats.same e k⟩
theorem Ats.same {K : PySem.W.Frag} {H H' : Hp} (e : Same H H') : ∀ {xs : List Py} {vs : List V}, Ats K H xs vs → Ats K H' xs vs
  | [], _, h => h
  | _ :: _, _, ⟨v, us, e1, h, k⟩ => ⟨v, us, e1, At.same e h, Ats.same e k⟩
end
theorem Ats.length {K : PySem.W.Frag} {H : Hp} : ∀ {xs : List Py} {vs : List V}, Ats K H xs vs → xs.length = vs.length
  | [], _, h => by cases h; rfl
  | _ :: xs, _, ⟨v, us, e1, _, k⟩ => by subst e1; simp [Ats.length k]
def ePs (xs ys : List Py) (j : Nat) : Bool := match xs[j]?, ys[j]? with
  | some x, some y => eqP x y
  | _, _ => false
theorem all_ePs : ∀ (xs ys : List Py), ((List.range (min xs.length ys.length)).all (ePs xs ys) && (xs.length == ys.length)) = eqPs xs ys
  | [], [] => rfl
  | [], _ :: _ => by simp [eqPs]
  | _ :: _, [] => by simp [eqPs]
  | x :: xs, y :: ys => by
    have ih := all_ePs xs ys
    rw [List.length_cons, List.length_cons, Nat.succ_min_succ, List.range_succ_eq_map, List.all_cons, List.all_map]
    have e1 : (ePs (x :: xs) (y :: ys) ∘ Nat.succ) = ePs xs ys := by
      funext j
      simp [ePs]
    have e2 : (xs.length + 1 == ys.length + 1) = (xs.length == ys.length) := by
      rw [Bool.eq_iff_iff]
      simp
    rw [e1, e2, Bool.and_assoc, ih]
    simp [ePs, eqPs]
section
variable {X : Cx} {pins : List (Addr × Obj)} {σ : L2.St} {H : Hp} {s : Shared}
mutual
theorem At.one (I : Inv X pins σ H s) : ∀ {x y : Py} {v : V}, At X.K H x v → At X.K H y v → eqP x y = true
  | .non, y, v, h, k => by cases h; cases y <;> simp_all [At, eqP]
  | .bl b, y, v, h, k => by cases h; cases y <;> simp_all [At, eqP]
  | .int b, y, v, h, k => by cases h; cases y <;> simp_all [At, eqP]
  | .str b, y, v, h, k => by cases h; cases y <;> simp_all [At, eqP]
  | .tup xs, y, v, h, k => by
    obtain ⟨a, vs, rfl, h1, h2⟩ := h
    cases y with
    | tup ys =>
      obtain ⟨b, us, e, k1, k2⟩ := k
      cases e
      cases I.tuple_inj h1 k1
      simpa [eqP] using Ats.one I h2 k2
    | lst ys =>
      obtain ⟨b, us, e, k1, k2⟩ := k
      cases e
      obtain ⟨_, _, ⟨o, e1, c1, _⟩, _⟩ := I.tuple h1
      obtain ⟨_, _, ⟨o', n, e2, c2, _⟩, _⟩ := I.list k1
      rw [e1] at e2; cases e2; exact absurd (Value.type.inj (c1.symm.trans c2)) (by decide)
    | _ => cases k
  | .lst xs, y, v, h, k => by
    obtain ⟨a, vs, rfl, h1, h2⟩ := h
    cases y with
    | lst ys =>
      obtain ⟨b, us, e, k1, k2⟩ := k
      cases e
      cases I.list_inj h1 k1
      simpa [eqP] using Ats.one I h2 k2
    | tup ys =>
      obtain ⟨b, us, e, k1, k2⟩ := k
      cases e
      obtain ⟨_, _, ⟨o, e1, c1, _⟩, _⟩ := I.tuple k1
      obtain ⟨_, _, ⟨o', n, e2, c2, _⟩, _⟩ := I.list h1
      rw [e1] at e2; cases e2; exact absurd (Value.type.inj (c1.symm.trans c2)) (by decide)
    | _ => cases k
theorem Ats.one (I : Inv X pins σ H s) : ∀ {xs ys : List Py} {vs : List V}, Ats X.K H xs vs → Ats X.K H ys vs → eqPs xs ys = true
  | [], ys, vs, h, k => by
    cases h
    cases ys with
    | nil => rfl
    | cons y ys => obtain ⟨_, _, e, _⟩ := k; cases e
  | x :: xs, ys, vs, h, k => by
    obtain ⟨v, us, rfl, h1, h2⟩ := h
    cases ys with
    | nil => cases k
    | cons y ys =>
      obtain ⟨v', us', e, k1, k2⟩ := k
      cases e
      simp [eqPs, At.one I h1 k1, Ats.one I h2 k2]
end
mutual
theorem eqAt (I : Inv X pins σ H s) : ∀ (x y : Py) {v v' : V} {u u' : Value} {A : Around}, At X.K H x v → At X.K H y v' → RelV v u → RelV v' u' → A.units + dep x < cLine → SeqAt.EqAt A s u u' (eqP x y)
  | .non, y, v, v', u, u', A, h, k, r, r', hu => by
    cases h; cases r
    cases y with
    | non => cases k; cases r'; exact SeqAt.EqAt.same _
    | bl b => cases k; cases r'; exact SeqAt.EqAt.none_bool _
    | int b => cases k; obtain ⟨t, rfl⟩ := r'; exact SeqAt.EqAt.none_int _ _
    | str b => cases k; obtain ⟨t, rfl⟩ := r'; exact SeqAt.EqAt.none_str _ _
    | tup ys => obtain ⟨a, vs, rfl, h1, h2⟩ := k; cases r'; obtain ⟨_, _, p, _⟩ := I.tuple h1; exact SeqAt.EqAt.none_tuple p (by simpa [dep] using hu)
    | lst ys => obtain ⟨a, vs, rfl, h1, h2⟩ := k; cases r'; obtain ⟨_, _, p, _⟩ := I.list h1; exact SeqAt.EqAt.none_list p.isList (by simpa [dep] using hu)
  | .bl x, y, v, v', u, u', A, h, k, r, r', hu => by
    cases h; cases r
    cases y with
    | non => cases k; cases r'; exact SeqAt.EqAt.bool_none _
    | bl b => cases k; cases r'; exact SeqAt.EqAt.bool_bool _ _
    | int b => cases k; obtain ⟨t, rfl⟩ := r'; exact SeqAt.EqAt.bool_int _ _ _
    | str b => cases k; obtain ⟨t, rfl⟩ := r'; exact SeqAt.EqAt.bool_str _ _ _
    | tup ys => obtain ⟨a, vs, rfl, h1, h2⟩ := k; cases r'; obtain ⟨_, _, p, _⟩ := I.tuple h1; exact SeqAt.EqAt.bool_tuple _ p (by simpa [dep] using hu)
    | lst ys => obtain ⟨a, vs, rfl, h1, h2⟩ := k; cases r'; obtain ⟨_, _, p, _⟩ := I.list h1; exact SeqAt.EqAt.bool_list _ p.isList (by simpa [dep] using hu)
  | .int x, y, v, v', u, u', A, h, k, r, r', hu => by
    cases h; obtain ⟨t0, rfl⟩ := r
    cases y with
    | non => cases k; cases r'; exact SeqAt.EqAt.int_none _ _
    | bl b => cases k; cases r'; exact SeqAt.EqAt.int_bool _ _ _
    | int b => cases k; obtain ⟨t, rfl⟩ := r'; exact SeqAt.EqAt.int_int _ _ _ _
    | str b => cases k; obtain ⟨t, rfl⟩ := r'; exact SeqAt.EqAt.int_str _ _ _ _
    | tup ys => obtain ⟨a, vs, rfl, h1, h2⟩ := k; cases r'; obtain ⟨_, _, p, _⟩ := I.tuple h1; exact SeqAt.EqAt.int_tuple _ _ p (by simpa [dep] using hu)
    | lst ys => obtain ⟨a, vs, rfl, h1, h2⟩ := k; cases r'; obtain ⟨_, _, p, _⟩ := I.list h1; exact SeqAt.EqAt.int_list _ _ p.isList (by simpa [dep] using hu)
  | .str x, y, v, v', u, u', A, h, k, r, r', hu => by
    cases h; obtain ⟨t0, rfl⟩ := r
    cases y with
    | non => cases k; cases r'; exact SeqAt.EqAt.str_none _ _
    | bl b => cases k; cases r'; exact SeqAt.EqAt.str_bool _ _ _
    | int b => cases k; obtain ⟨t, rfl⟩ := r'; exact SeqAt.EqAt.str_int _ _ _ _
    | str b => cases k; obtain ⟨t, rfl⟩ := r'; exact SeqAt.EqAt.str_str _ _ _ _
    | tup ys => obtain ⟨a, vs, rfl, h1, h2⟩ := k; cases r'; obtain ⟨_, _, p, _⟩ := I.tuple h1; exact SeqAt.EqAt.str_tuple _ _ p (by simpa [dep] using hu)
    | lst ys => obtain ⟨a, vs, rfl, h1, h2⟩ := k; cases r'; obtain ⟨_, _, p, _⟩ := I.list h1; exact SeqAt.EqAt.str_list _ _ p.isList (by simpa [dep] using hu)
  | .tup xs, y, v, v', u, u', A, h, k, r, r', hu => by
    have h0 := h
    obtain ⟨a, vs, rfl, h1, h2⟩ := h
    cases r
    obtain ⟨is, r1, p1, _⟩ := I.tuple h1
    have hu0 : A.units < cLine := by omega
    have hu1 : A.in1.units + deps xs < cLine := by
      have e : dep (.tup xs) = deps xs + 1 := by rw [dep]
      rw [e] at hu
      show A.units + 1 + deps xs < cLine
      omega
    cases y with
    | non => cases k; cases r'; exact SeqAt.EqAt.tuple_none p1 hu0
    | bl b => cases k; cases r'; exact SeqAt.EqAt.tuple_bool _ p1 hu0
    | int b => cases k; obtain ⟨t, rfl⟩ := r'; exact SeqAt.EqAt.tuple_int _ _ p1 hu0
    | str b => cases k; obtain ⟨t, rfl⟩ := r'; exact SeqAt.EqAt.tuple_str _ _ p1 hu0
    | lst ys => obtain ⟨b, us, rfl, k1, k2⟩ := k; cases r'; obtain ⟨_, _, p, _⟩ := I.list k1; exact SeqAt.EqAt.tuple_list p1 p.isList hu0
    | tup ys =>
      have k0 := k
      obtain ⟨b, us, rfl, k1, k2⟩ := k
      cases r'
      by_cases hab : a = b
      · subst hab
        rw [At.one I h0 k0]
        exact SeqAt.EqAt.same _
      · obtain ⟨js, r2, p2, _⟩ := I.tuple k1
        refine SeqAt.EqAt.of_refs hab ?_
        have key := SeqAt.RcAt.tuples (e := ePs xs ys) p1 p2 hu0 fun j q1 q2 => eqAts I xs ys h2 k2 r1 r2 hu1 j (by simpa using q1) (by simpa using q2)
        have e1 : is.length = xs.length := by rw [← r1.length, h2.length]
        have e2 : js.length = ys.length := by rw [← r2.length, k2.length]
        simp only [List.size_toArray] at key
        rw [e1, e2, all_ePs] at key
        simpa [eqP] using key
  | .lst xs, y, v, v', u, u', A, h, k, r, r', hu => by
    have h0 := h
    obtain ⟨a, vs, rfl, h1, h2⟩ := h
    cases r
    obtain ⟨is, r1, p1, _⟩ := I.list h1
    have hu0 : A.units < cLine := by omega
    have hu1 : A.in1.units + deps xs < cLine := by
      have e : dep (.lst xs) = deps xs + 1 := by rw [dep]
      rw [e] at hu
      show A.units + 1 + deps xs < cLine
      omega
    cases y with
    | non => cases k; cases r'; exact SeqAt.EqAt.list_none p1.isList hu0
    | bl b => cases k; cases r'; exact SeqAt.EqAt.list_bool _ p1.isList hu0
    | int b => cases k; obtain ⟨t, rfl⟩ := r'; exact SeqAt.EqAt.list_int _ _ p1.isList hu0
    | str b => cases k; obtain ⟨t, rfl⟩ := r'; exact SeqAt.EqAt.list_str _ _ p1.isList hu0
    | tup ys => obtain ⟨b, us, rfl, k1, k2⟩ := k; cases r'; obtain ⟨_, _, p, _⟩ := I.tuple k1; exact SeqAt.EqAt.list_tuple p1.isList p hu0
    | lst ys =>
      have k0 := k
      obtain ⟨b, us, rfl, k1, k2⟩ := k
      cases r'
      by_cases hab : a = b
      · subst hab
        rw [At.one I h0 k0]
        exact SeqAt.EqAt.same _
      · obtain ⟨js, r2, p2, _⟩ := I.list k1
        refine SeqAt.EqAt.of_refs hab ?_
        have e1 : is.length = xs.length := by rw [← r1.length, h2.length]
        have e2 : js.length = ys.length := by rw [← r2.length, k2.length]
        have ae := all_ePs xs ys
        by_cases hl : xs.length = ys.length
        · have key := SeqAt.RcAt.lists (e := ePs xs ys) p1.isList p2.isList (by simp only [List.size_toArray]; omega) hu0 fun j q1 q2 => eqAts I xs ys h2 k2 r1 r2 hu1 j (by simpa using q1) (by simpa using q2)
          simp only [List.size_toArray] at key
          rw [hl, Nat.min_self] at ae
          have e3 : (ys.length == ys.length) = true := by simp
          rw [e3, Bool.and_true] at ae
          rw [e1, hl, ae] at key
          simpa [eqP] using key
        · have key := SeqAt.RcAt.lists_lengths p1.isList p2.isList (A := A) (by simp only [List.size_toArray]; rw [e1, e2]; simpa using hl) hu0
          have e3 : eqPs xs ys = false := by
            rw [← ae]
            have : (xs.length == ys.length) = false := by simpa using hl
            rw [this, Bool.and_false]
          simpa [eqP, e3] using key
theorem eqAts (I : Inv X pins σ H s) : ∀ (xs ys : List Py) {vs us : List V} {is js : List Value} {A : Around}, Ats X.K H xs vs → Ats X.K H ys us → Vals vs is → Vals us js → A.units + deps xs < cLine → ∀ j (h1 : j < is.length) (h2 : j < js.length), SeqAt.EqAt A s is[j] js[j] (ePs xs ys j)
  | [], ys, vs, us, is, js, A, h, k, r, r', hu, j, h1, h2 => by
    cases h; cases r; exact absurd h1 (Nat.not_lt_zero _)
  | x :: xs, [], vs, us, is, js, A, h, k, r, r', hu, j, h1, h2 => by
    cases k; cases r'; exact absurd h2 (Nat.not_lt_zero _)
  | x :: xs, y :: ys, vs, us, is, js, A, h, k, r, r', hu, j, h1, h2 => by
    obtain ⟨v, vs', rfl, a1, a2⟩ := h
    obtain ⟨v', us', rfl, b1, b2⟩ := k
    cases r with
    | cons q1 q2 =>
      cases r' with
      | cons z1 z2 =>
        have e : deps (x :: xs) = max (dep x) (deps xs) := by rw [deps]
        rw [e] at hu
        cases j with
        | zero => exact eqAt I x y a1 b1 q1 z1 (by omega)
        | succ j =>
          have := eqAts I xs ys a2 b2 q2 z2 (A := A) (by omega) j (by simpa using h1) (by simpa using h2)
          simpa [ePs] using this
end
theorem rcAt (I : Inv X pins σ H s) (x y : Py) {v v' : V} {u u' : Value} {A : Around} (h : At X.K H x v) (k : At X.K H y v') (r : RelV v u) (r' : RelV v' u') (hu : A.units + dep x < cLine) : SeqAt.RcAt A s u u' (eqP x y) := by
  have hu0 : A.units < cLine := by omega
  cases x with
  | non =>
    cases h; cases r
    cases y with
    | non => cases k; cases r'; exact SeqAt.RcAt.none_none
    | bl b => cases k; cases r'; exact SeqAt.RcAt.none_bool _
    | int b => cases k; obtain ⟨t, rfl⟩ := r'; exact SeqAt.RcAt.none_int _ _
    | str b => cases k; obtain ⟨t, rfl⟩ := r'; exact SeqAt.RcAt.none_str _ _
    | tup ys => obtain ⟨b, us, rfl, k1, k2⟩ := k; cases r'; obtain ⟨js, r2, p2, _⟩ := I.tuple k1; exact SeqAt.RcAt.none_tuple p2 hu0
    | lst ys => obtain ⟨b, us, rfl, k1, k2⟩ := k; cases r'; obtain ⟨js, r2, p2, _⟩ := I.list k1; exact SeqAt.RcAt.none_list p2.isList hu0
  | bl i =>
    cases h; cases r
    cases y with
    | non => cases k; cases r'; exact SeqAt.RcAt.bool_none _
    | bl b => cases k; cases r'; exact SeqAt.RcAt.bool_bool _ _
    | int b => cases k; obtain ⟨t, rfl⟩ := r'; exact SeqAt.RcAt.bool_int _ _ _
    | str b => cases k; obtain ⟨t, rfl⟩ := r'; exact SeqAt.RcAt.bool_str _ _ _
    | tup ys => obtain ⟨b, us, rfl, k1, k2⟩ := k; cases r'; obtain ⟨js, r2, p2, _⟩ := I.tuple k1; exact SeqAt.RcAt.bool_tuple _ p2 hu0
    | lst ys => obtain ⟨b, us, rfl, k1, k2⟩ := k; cases r'; obtain ⟨js, r2, p2, _⟩ := I.list k1; exact SeqAt.RcAt.bool_list _ p2.isList hu0
  | int i =>
    cases h; obtain ⟨t0, rfl⟩ := r
    cases y with
    | non => cases k; cases r'; exact SeqAt.RcAt.int_none _ _
    | bl b => cases k; cases r'; exact SeqAt.RcAt.int_bool _ _ _
    | int b => cases k; obtain ⟨t, rfl⟩ := r'; exact SeqAt.RcAt.int_int _ _ _ _
    | str b => cases k; obtain ⟨t, rfl⟩ := r'; exact SeqAt.RcAt.int_str _ _ _ _
    | tup ys => obtain ⟨b, us, rfl, k1, k2⟩ := k; cases r'; obtain ⟨js, r2, p2, _⟩ := I.tuple k1; exact SeqAt.RcAt.int_tuple _ _ p2 hu0
    | lst ys => obtain ⟨b, us, rfl, k1, k2⟩ := k; cases r'; obtain ⟨js, r2, p2, _⟩ := I.list k1; exact SeqAt.RcAt.int_list _ _ p2.isList hu0
  | str i =>
    cases h; obtain ⟨t0, rfl⟩ := r
    cases y with
    | non => cases k; cases r'; exact SeqAt.RcAt.str_none _ _
    | bl b => cases k; cases r'; exact SeqAt.RcAt.str_bool _ _ _
    | int b => cases k; obtain ⟨t, rfl⟩ := r'; exact SeqAt.RcAt.str_int _ _ _ _
    | str b => cases k; obtain ⟨t, rfl⟩ := r'; exact SeqAt.RcAt.str_str _ _ _ _
    | tup ys => obtain ⟨b, us, rfl, k1, k2⟩ := k; cases r'; obtain ⟨js, r2, p2, _⟩ := I.tuple k1; exact SeqAt.RcAt.str_tuple _ _ p2 hu0
    | lst ys => obtain ⟨b, us, rfl, k1, k2⟩ := k; cases r'; obtain ⟨js, r2, p2, _⟩ := I.list k1; exact SeqAt.RcAt.str_list _ _ p2.isList hu0
  | tup xs =>
    obtain ⟨a, vs, rfl, h1, h2⟩ := h
    cases r
    obtain ⟨is, r1, p1, _⟩ := I.tuple h1
    have hu1 : A.in1.units + deps xs < cLine := by
      have e : dep (.tup xs) = deps xs + 1 := by rw [dep]
      rw [e] at hu
      show A.units + 1 + deps xs < cLine
      omega
    cases y with
    | non => cases k; cases r'; exact SeqAt.RcAt.tuple_none p1 hu0
    | bl b => cases k; cases r'; exact SeqAt.RcAt.tuple_bool _ p1 hu0
    | int b => cases k; obtain ⟨t, rfl⟩ := r'; exact SeqAt.RcAt.tuple_int _ _ p1 hu0
    | str b => cases k; obtain ⟨t, rfl⟩ := r'; exact SeqAt.RcAt.tuple_str _ _ p1 hu0
    | tup ys =>
      obtain ⟨b, us, rfl, k1, k2⟩ := k; cases r'; obtain ⟨js, r2, p2, _⟩ := I.tuple k1
      have e1 : is.length = xs.length := by rw [← r1.length, h2.length]
      have e2 : js.length = ys.length := by rw [← r2.length, k2.length]
      have ae := all_ePs xs ys
      have key := SeqAt.RcAt.tuples (e := ePs xs ys) p1 p2 hu0 fun j q1 q2 => eqAts I xs ys h2 k2 r1 r2 hu1 j (by simpa using q1) (by simpa using q2)
      simp only [List.size_toArray] at key
      rw [e1, e2, ae] at key
      simpa [eqP] using key
    | lst ys => obtain ⟨b, us, rfl, k1, k2⟩ := k; cases r'; obtain ⟨js, r2, p2, _⟩ := I.list k1; exact SeqAt.RcAt.tuple_list p1 p2.isList hu0
  | lst xs =>
    obtain ⟨a, vs, rfl, h1, h2⟩ := h
    cases r
    obtain ⟨is, r1, p1, _⟩ := I.list h1
    have hu1 : A.in1.units + deps xs < cLine := by
      have e : dep (.lst xs) = deps xs + 1 := by rw [dep]
      rw [e] at hu
      show A.units + 1 + deps xs < cLine
      omega
    cases y with
    | non => cases k; cases r'; exact SeqAt.RcAt.list_none p1.isList hu0
    | bl b => cases k; cases r'; exact SeqAt.RcAt.list_bool _ p1.isList hu0
    | int b => cases k; obtain ⟨t, rfl⟩ := r'; exact SeqAt.RcAt.list_int _ _ p1.isList hu0
    | str b => cases k; obtain ⟨t, rfl⟩ := r'; exact SeqAt.RcAt.list_str _ _ p1.isList hu0
    | tup ys => obtain ⟨b, us, rfl, k1, k2⟩ := k; cases r'; obtain ⟨js, r2, p2, _⟩ := I.tuple k1; exact SeqAt.RcAt.list_tuple p1.isList p2 hu0
    | lst ys =>
      obtain ⟨b, us, rfl, k1, k2⟩ := k; cases r'; obtain ⟨js, r2, p2, _⟩ := I.list k1
      have e1 : is.length = xs.length := by rw [← r1.length, h2.length]
      have e2 : js.length = ys.length := by rw [← r2.length, k2.length]
      have ae := all_ePs xs ys
      by_cases hl : xs.length = ys.length
      · have key := SeqAt.RcAt.lists (e := ePs xs ys) p1.isList p2.isList (by simp only [List.size_toArray]; omega) hu0 fun j q1 q2 => eqAts I xs ys h2 k2 r1 r2 hu1 j (by simpa using q1) (by simpa using q2)
        simp only [List.size_toArray] at key
        rw [hl, Nat.min_self] at ae
        have e3 : (ys.length == ys.length) = true := by simp
        rw [e3, Bool.and_true] at ae
        rw [e1, hl, ae] at key
        simpa [eqP] using key
      · have key := SeqAt.RcAt.lists_lengths p1.isList p2.isList (A := A) (by simp only [List.size_toArray]; rw [e1, e2]; simpa using hl) hu0
        have e3 : eqPs xs ys = false := by
          rw [← ae]
          have : (xs.length == ys.length) = false := by simpa using hl
          rw [this, Bool.and_false]
        simpa [eqP, e3] using key
theorem rneAt (I : Inv X pins σ H s) (x y : Py) {v v' : V} {u u' : Value} {A : Around} (h : At X.K H x v) (k : At X.K H y v') (r : RelV v u) (r' : RelV v' u') (hu : A.units + dep x < cLine) : SeqAt.RcNeAt A s u u' (!eqP x y) := by
  have hu0 : A.units < cLine := by omega
  cases x with
  | non =>
    cases h; cases r
    cases y with
    | non => cases k; cases r'; exact SeqAt.RcNeAt.none_none
    | bl b => cases k; cases r'; exact SeqAt.RcNeAt.none_bool _
    | int b => cases k; obtain ⟨t, rfl⟩ := r'; exact SeqAt.RcNeAt.none_int _ _
    | str b => cases k; obtain ⟨t, rfl⟩ := r'; exact SeqAt.RcNeAt.none_str _ _
    | tup ys => obtain ⟨b, us, rfl, k1, k2⟩ := k; cases r'; obtain ⟨js, r2, p2, _⟩ := I.tuple k1; exact SeqAt.RcNeAt.none_tuple p2 hu0
    | lst ys => obtain ⟨b, us, rfl, k1, k2⟩ := k; cases r'; obtain ⟨js, r2, p2, _⟩ := I.list k1; exact SeqAt.RcNeAt.none_list p2.isList hu0
  | bl i =>
    cases h; cases r
    cases y with
    | non => cases k; cases r'; exact SeqAt.RcNeAt.bool_none _
    | bl b => cases k; cases r'; exact SeqAt.RcNeAt.bool_bool _ _
    | int b => cases k; obtain ⟨t, rfl⟩ := r'; exact SeqAt.RcNeAt.bool_int _ _ _
    | str b => cases k; obtain ⟨t, rfl⟩ := r'; exact SeqAt.RcNeAt.bool_str _ _ _
    | tup ys => obtain ⟨b, us, rfl, k1, k2⟩ := k; cases r'; obtain ⟨js, r2, p2, _⟩ := I.tuple k1; exact SeqAt.RcNeAt.bool_tuple _ p2 hu0
    | lst ys => obtain ⟨b, us, rfl, k1, k2⟩ := k; cases r'; obtain ⟨js, r2, p2, _⟩ := I.list k1; exact SeqAt.RcNeAt.bool_list _ p2.isList hu0
  | int i =>
    cases h; obtain ⟨t0, rfl⟩ := r
    cases y with
    | non => cases k; cases r'; exact SeqAt.RcNeAt.int_none _ _
    | bl b => cases k; cases r'; exact SeqAt.RcNeAt.int_bool _ _ _
    | int b => cases k; obtain ⟨t, rfl⟩ := r'; exact SeqAt.RcNeAt.int_int _ _ _ _
    | str b => cases k; obtain ⟨t, rfl⟩ := r'; exact SeqAt.RcNeAt.int_str _ _ _ _
    | tup ys => obtain ⟨b, us, rfl, k1, k2⟩ := k; cases r'; obtain ⟨js, r2, p2, _⟩ := I.tuple k1; exact SeqAt.RcNeAt.int_tuple _ _ p2 hu0
    | lst ys => obtain ⟨b, us, rfl, k1, k2⟩ := k; cases r'; obtain ⟨js, r2, p2, _⟩ := I.list k1; exact SeqAt.RcNeAt.int_list _ _ p2.isList hu0
  | str i =>
    cases h; obtain ⟨t0, rfl⟩ := r
    cases y with
    | non => cases k; cases r'; exact SeqAt.RcNeAt.str_none _ _
    | bl b => cases k; cases r'; exact SeqAt.RcNeAt.str_bool _ _ _
    | int b => cases k; obtain ⟨t, rfl⟩ := r'; exact SeqAt.RcNeAt.str_int _ _ _ _
    | str b => cases k; obtain ⟨t, rfl⟩ := r'; exact SeqAt.RcNeAt.str_str _ _ _ _
    | tup ys => obtain ⟨b, us, rfl, k1, k2⟩ := k; cases r'; obtain ⟨js, r2, p2, _⟩ := I.tuple k1; exact SeqAt.RcNeAt.str_tuple _ _ p2 hu0
    | lst ys => obtain ⟨b, us, rfl, k1, k2⟩ := k; cases r'; obtain ⟨js, r2, p2, _⟩ := I.list k1; exact SeqAt.RcNeAt.str_list _ _ p2.isList hu0
  | tup xs =>
    obtain ⟨a, vs, rfl, h1, h2⟩ := h
    cases r
    obtain ⟨is, r1, p1, _⟩ := I.tuple h1
    have hu1 : A.in1.units + deps xs < cLine := by
      have e : dep (.tup xs) = deps xs + 1 := by rw [dep]
      rw [e] at hu
      show A.units + 1 + deps xs < cLine
      omega
    cases y with
    | non => cases k; cases r'; exact SeqAt.RcNeAt.tuple_none p1 hu0
    | bl b => cases k; cases r'; exact SeqAt.RcNeAt.tuple_bool _ p1 hu0
    | int b => cases k; obtain ⟨t, rfl⟩ := r'; exact SeqAt.RcNeAt.tuple_int _ _ p1 hu0
    | str b => cases k; obtain ⟨t, rfl⟩ := r'; exact SeqAt.RcNeAt.tuple_str _ _ p1 hu0
    | tup ys =>
      obtain ⟨b, us, rfl, k1, k2⟩ := k; cases r'; obtain ⟨js, r2, p2, _⟩ := I.tuple k1
      have e1 : is.length = xs.length := by rw [← r1.length, h2.length]
      have e2 : js.length = ys.length := by rw [← r2.length, k2.length]
      have ae := all_ePs xs ys
      have key := SeqAt.RcNeAt.tuples (e := ePs xs ys) p1 p2 hu0 fun j q1 q2 => eqAts I xs ys h2 k2 r1 r2 hu1 j (by simpa using q1) (by simpa using q2)
      simp only [List.size_toArray] at key
      rw [e1, e2, ae] at key
      simpa [eqP] using key
    | lst ys => obtain ⟨b, us, rfl, k1, k2⟩ := k; cases r'; obtain ⟨js, r2, p2, _⟩ := I.list k1; exact SeqAt.RcNeAt.tuple_list p1 p2.isList hu0
  | lst xs =>
    obtain ⟨a, vs, rfl, h1, h2⟩ := h
    cases r
    obtain ⟨is, r1, p1, _⟩ := I.list h1
    have hu1 : A.in1.units + deps xs < cLine := by
      have e : dep (.lst xs) = deps xs + 1 := by rw [dep]
      rw [e] at hu
      show A.units + 1 + deps xs < cLine
      omega
    cases y with
    | non => cases k; cases r'; exact SeqAt.RcNeAt.list_none p1.isList hu0
    | bl b => cases k; cases r'; exact SeqAt.RcNeAt.list_bool _ p1.isList hu0
    | int b => cases k; obtain ⟨t, rfl⟩ := r'; exact SeqAt.RcNeAt.list_int _ _ p1.isList hu0
    | str b => cases k; obtain ⟨t, rfl⟩ := r'; exact SeqAt.RcNeAt.list_str _ _ p1.isList hu0
    | tup ys => obtain ⟨b, us, rfl, k1, k2⟩ := k; cases r'; obtain ⟨js, r2, p2, _⟩ := I.tuple k1; exact SeqAt.RcNeAt.list_tuple p1.isList p2 hu0
    | lst ys =>
      obtain ⟨b, us, rfl, k1, k2⟩ := k; cases r'; obtain ⟨js, r2, p2, _⟩ := I.list k1
      have e1 : is.length = xs.length := by rw [← r1.length, h2.length]
      have e2 : js.length = ys.length := by rw [← r2.length, k2.length]
      have ae := all_ePs xs ys
      by_cases hl : xs.length = ys.length
      · have key := SeqAt.RcNeAt.lists (e := ePs xs ys) p1.isList p2.isList (by simp only [List.size_toArray]; omega) hu0 fun j q1 q2 => eqAts I xs ys h2 k2 r1 r2 hu1 j (by simpa using q1) (by simpa using q2)
        simp only [List.size_toArray] at key
        rw [hl, Nat.min_self] at ae
        have e3 : (ys.length == ys.length) = true := by simp
        rw [e3, Bool.and_true] at ae
        rw [e1, hl, ae] at key
        simpa [eqP] using key
      · have key := SeqAt.RcNeAt.lists_lengths p1.isList p2.isList (A := A) (by simp only [List.size_toArray]; rw [e1, e2]; simpa using hl) hu0
        have e3 : eqPs xs ys = false := by
          rw [← ae]
          have : (xs.length == ys.length) = false := by simpa using hl
          rw [this, Bool.and_false]
        simpa [eqP, e3] using key
def rP (K : PySem.W.Frag) (f : Bool → Bool) : R2 := fun v v' H Q => ∃ x y : Py, At K H x v ∧ At K H y v' ∧ dep x ≤ 60 ∧ Q (.bl (f (eqP x y))) H
theorem op_eqP (hu : X.A.units + 61 < cLine) : OpR X (compareOp .Eq) (rP X.K id) := by
  intro pins s σ H x y v u Q I rx ry h
  obtain ⟨a, b, h1, h2, d, q⟩ := h
  exact rcAt I a b h1 h2 rx ry (by omega) X.prog X.w X.xe _ ⟨.bl _, H, I, rfl, q⟩
theorem op_neP (hu : X.A.units + 61 < cLine) : OpR X (compareOp .NotEq) (rP X.K not) := by
  intro pins s σ H x y v u Q I rx ry h
  obtain ⟨a, b, h1, h2, d, q⟩ := h
  exact rneAt I a b h1 h2 rx ry (by omega) X.prog X.w X.xe _ ⟨.bl _, H, I, rfl, q⟩
end
end Ov
set_option Elab.async false
set_option linter.all false
set_option maxRecDepth 100000
namespace Ov
open PySem PySem.Spec PySem.Calls PyProof.Rows PySem.W Builtin.Getset_descriptor
def ExcAt (x D : Addr) (h : Heap) : Prop := ∃ ox, h.get? x = some ox ∧ ox.cls = .ref D
theorem ExcAt.ty {M : Model} {h : Heap} {x D : Addr} (I : ExcAt x D h) : Looks M h (typeOf (.ref x)) (.ref D) := by
  obtain ⟨ox, a, b⟩ := I
  rw [← b]
  exact (Looks.ld a).andThen .now
section
variable {prog : Program} {w : World} {A : Around} {E : Value → Shared → Prop} {s : Shared} {K : Frag} {x D : Addr}
structure XCls (K : Frag) (D : Addr) : Prop where
  cls : (clsIn K D).isSome = true
  ga : findIn K (.ref D) "__getattribute__" = some (some (.builtin "BaseException.__getattribute__"))
  gt : findIn K (.ref D) "__getattr__" = some none
  ca : findIn K (.ref D) "__class__" = some (some (.builtin "object.__class__"))
  get : specialIn K (.builtin "object.__class__") "__get__" = some (some (.builtin "getset_descriptor.__get__"))
  tk : takesIn K (.builtin "object.__class__") = some true
  obj : mroIn K D (.type "object") = some true
  bex : subIn K (.ref D) (.type "BaseException") = some true
theorem XCls.at {h : Heap} (Z : XCls K D) (X : K.In h) : ∃ c d cd sl, h.get? D = some ⟨c, d, .cls cd, sl⟩ := by
  obtain ⟨cd, q⟩ := Option.isSome_iff_exists.mp Z.cls
  unfold clsIn at q
  split at q
  · exact ⟨_, _, _, _, X _ _ (by assumption)⟩
  · cases q
end
end Ov
set_option Elab.async false
set_option linter.all false
set_option maxRecDepth 100000
namespace Ov
open PySem PySem.Spec PyProof.Rows L2
structure FlyAt (P : Program) (w : World) (outer : List Env) (H : Hp) (s : Shared) (ea : Addr) (cls : Value) (H' : Hp) (s' : Shared) : Prop where
  os : s'.os = s.os
  bare : AllBare s'.gens
  un : Un (frs outer) [] H H' s.heap s'.heap
  hok : HOk P w H' s'.heap
  fl : ∃ B t, Heap.FlyingW B outer ea cls (.ref t) s'.heap ∧ ∀ b o, s'.heap.get? b = some o → (H' b ≠ none ∨ ∃ o₀, s.heap.get? b = some o₀) → b ∉ frs outer → B.get? b = some o
def Fly (P : Program) (w : World) : CXT := fun outer H s E e s' => ∃ ea cls H', e = .ref ea ∧ FlyAt P w outer H s ea cls H' s' ∧ E cls none H'
theorem objSome {P : Program} {w : World} {H : Hp} {h : Heap} {a : Addr} {o : HO} (x : ObjOk P w H h a o) : ∃ ob, h.get? a = Option.some ob := by
  have lt := x.lt
  cases o with
  | lst xs => obtain ⟨_, _, _, _, e⟩ := x; exact ⟨_, e⟩
  | tup xs => obtain ⟨_, _, _, ob, e, _⟩ := x; exact ⟨_, e⟩
  | dK kvs => obtain ⟨_, _, _, _, o, _, _, e, _⟩ := x; exact ⟨_, e⟩
  | dE kvs ep => obtain ⟨_, _, _, _, o, _, e, _⟩ := x; exact ⟨_, e⟩
  | set S n => obtain ⟨o, _, _, _, e, _⟩ := x; exact ⟨_, e⟩
  | ins C dx fs => obtain ⟨_, _, _, e, _⟩ := x; exact ⟨_, e⟩
  | own y => exact x
  | xd fs => obtain ⟨_, ⟨_, _, _, e, _⟩, _⟩ := x; exact ⟨_, e⟩
  | rng lo hi => obtain ⟨_, _, _, e⟩ := x; exact ⟨_, e⟩
  | frz ob u => obtain ⟨e, _⟩ := x; exact ⟨_, e⟩
  | tbl ps => exact ⟨_, x⟩
  | met f y => exact ⟨_, x⟩
  | ext φ => obtain ⟨_, e, _⟩ := x; exact e
section
variable {X : Cx} {pins : List (Addr × Obj)} {σ : L2.St} {H H' : Hp} {s : Shared} {ea t : Addr} {cls : Value} {B h1 h2 : Heap}
theorem frame_no (I : Inv X pins σ H s) (un : Un (frs X.stack) [] H H' s.heap h1) {b : Addr} (hb : b ∈ frs X.stack) : H' b = none ∧ ∃ o, h1.get? b = some o ∧ ∀ vs, o.data ≠ .fields vs := by
  obtain ⟨_, o, ho, hn⟩ := I.stack.mem hb
  have n := I.stkFree b hb
  obtain ⟨sl, e⟩ := un.any ho n (by simp)
  exact ⟨un.free b o ho n (by simp), _, e, hn⟩
theorem held_un (I : Inv X pins σ H s) (un : Un (frs X.stack) [] H H' s.heap h1) (cov : ∀ b o, h1.get? b = some o → (H' b ≠ none ∨ ∃ o₀, s.heap.get? b = some o₀) → b ∉ frs X.stack → B.get? b = some o)
    (hB : B.StaysIn h2) (up : h1.UpToSlots h2) : Un (frs X.stack) [] H H' s.heap h2 where
  keep := fun b o e n hb hx => hB b o (cov b o (un.keep b o e n hb hx) (.inr ⟨o, e⟩) hb)
  slot := fun b o e n hb hx => by
    obtain ⟨sl, e1⟩ := un.slot b o e n hb hx
    obtain ⟨_, o', e2, hn⟩ := frame_no I un hb
    rw [e1] at e2; cases e2
    obtain ⟨sl', e3⟩ := up b _ e1 hn
    exact ⟨sl', e3⟩
  free := un.free
  there := fun b o e hx => by
    obtain ⟨o', e1⟩ := un.there b o e hx
    by_cases hb : b ∈ frs X.stack
    · obtain ⟨_, o2, e2, hn⟩ := frame_no I un hb
      obtain ⟨sl', e3⟩ := up b _ e2 hn
      exact ⟨_, e3⟩
    · exact ⟨o', hB b o' (cov b o' e1 (.inr ⟨o, e⟩) hb)⟩
  tups := un.tups
  frzs := un.frzs
  tbls := un.tbls
theorem held_ok (I : Inv X pins σ H s) (un : Un (frs X.stack) [] H H' s.heap h1) (cov : ∀ b o, h1.get? b = some o → (H' b ≠ none ∨ ∃ o₀, s.heap.get? b = some o₀) → b ∉ frs X.stack → B.get? b = some o)
    (hB : B.StaysIn h2) (ok : HOk X.prog X.w H' h1) : HOk X.prog X.w H' h2 := fun a o e => by
  have nf : ∀ b u, H' b = some u → b ∉ frs X.stack := fun b u q hb => by
    have := (frame_no I un hb).1
    rw [q] at this; cases this
  refine (ok a o e).stay (fun b u hb q => ?_) (fun _ q => q) fun _ _ q => q
  rcases hb with rfl | hb
  · exact hB _ _ (cov _ _ q (.inl (by rw [e]; exact fun z => nomatch z)) (nf _ _ e))
  · exact hB _ _ (cov _ _ q (.inl (by rw [hb]; exact fun z => nomatch z)) (nf _ _ hb))
theorem cov_on (un : Un (frs X.stack) [] H H' s.heap h1) (ok : HOk X.prog X.w H' h1) (cov : ∀ b o, h1.get? b = some o → (H' b ≠ none ∨ ∃ o₀, s.heap.get? b = some o₀) → b ∉ frs X.stack → B.get? b = some o) (hB : B.StaysIn h2) :
    ∀ b o, h2.get? b = some o → (H' b ≠ none ∨ ∃ o₀, s.heap.get? b = some o₀) → b ∉ frs X.stack → B.get? b = some o := fun b o e hb nb => by
  have : ∃ o1, h1.get? b = some o1 := by
    rcases hb with z | ⟨o₀, z⟩
    · cases q : H' b with
      | none => exact absurd q z
      | some u => exact objSome (ok b u q)
    · exact un.there b o₀ z (by simp)
  obtain ⟨o1, e1⟩ := this
  have c := cov b o1 e1 hb nb
  have := hB b o1 c
  rw [e] at this; cases this
  exact c
theorem FlyAt.on {s' : Shared} (I : Inv X pins σ H s) (F : FlyAt X.prog X.w X.stack H s ea cls H' s') : ∃ B t, Heap.FlyingW B X.stack ea cls (.ref t) s'.heap ∧
    ∀ h2, Heap.FlyingW B X.stack ea cls (.ref t) h2 → s'.heap.UpToSlots h2 → FlyAt X.prog X.w X.stack H s ea cls H' { s' with heap := h2 } := by
  obtain ⟨B, t, fl, cov⟩ := F.fl
  exact ⟨B, t, fl, fun h2 fl2 up => ⟨F.os, F.bare, held_un I F.un cov fl2.1 up, held_ok I F.un cov fl2.1 F.hok, B, t, fl2, cov_on F.un F.hok cov fl2.1⟩⟩
theorem fly_out {s2 : Shared} (I : Inv X pins σ H s) (hst : X.stack = X.env :: X.outer) (hfr : X.env.frame = some X.env.locals) (hex : X.ex = []) (os : s2.os = s.os) (bare : AllBare s2.gens) (un : Un (frs X.stack) [] H H' s.heap s2.heap)
    (ok : HOk X.prog X.w H' s2.heap) (cov : ∀ b o, s2.heap.get? b = some o → (H' b ≠ none ∨ ∃ o₀, s.heap.get? b = some o₀) → b ∉ frs X.stack → B.get? b = some o) (fl : Heap.FlyingW B X.outer ea cls (.ref t) s2.heap) :
    FlyAt X.prog X.w X.outer X.H₀ X.s₀ ea cls H' s2 := by
  have nst : ∀ b o, X.s₀.heap.get? b = some o → b ∉ X.fs → b ∉ frs X.stack := fun b o e nb hb => by
    rcases List.mem_cons.mp (I.stkSub b hb) with z | z
    · have := Nat.lt_of_lt_of_le (Heap.lt_size e) I.ok.above
      rw [z] at this
      exact Nat.lt_irrefl _ this
    · exact nb z
  have sub : ∀ b, b ∈ X.fs → b ∈ frs X.stack := fun b hb => by rw [hst]; unfold frs; rw [List.filterMap_cons, hfr]; exact List.mem_cons_of_mem _ hb
  have nx : ∀ b : Addr, b ∉ X.ex := fun b => by rw [hex]; simp
  refine ⟨os.trans I.os, bare, ⟨fun b o e n hb _ => ?_, fun b o e n hb _ => ?_, fun b o e n _ => ?_, fun b o e _ => ?_, fun b xs q => un.tups b xs (I.base.tups b xs q), fun b o xs q => un.frzs b o xs (I.base.frzs b o xs q), fun b ps q => ?_⟩, ok, B, t, fl, fun b o e hb nb => ?_⟩
  · exact un.keep b o (I.base.keep b o e n hb (nx b)) (I.base.free b o e n (nx b)) (nst b o e hb) (by simp)
  · obtain ⟨sl, e1⟩ := I.base.slot b o e n hb (nx b)
    obtain ⟨sl', e2⟩ := un.slot b _ e1 (I.base.free b o e n (nx b)) (sub b hb) (by simp)
    exact ⟨sl', e2⟩
  · obtain ⟨o', e1⟩ := I.base.there b o e (nx b)
    exact un.free b o' e1 (I.base.free b o e n (nx b)) (by simp)
  · obtain ⟨o', e1⟩ := I.base.there b o e (nx b)
    exact un.there b o' e1 (by simp)
  · obtain ⟨m1, e1⟩ := I.base.tbls b ps q
    obtain ⟨m2, e2⟩ := un.tbls b _ e1
    exact ⟨m1 ++ m2, by rw [e2, Array.append_assoc]⟩
  · rcases hb with z | ⟨o₀, z⟩
    · exact cov b o e (.inl z) fun hb => z (frame_no I un hb).1
    · obtain ⟨o1, e1⟩ := I.base.there b o₀ z (nx b)
      exact cov b o e (.inr ⟨o1, e1⟩) (nst b o₀ z nb)
theorem leave_fly {E : XK} {e : Value} {s' : Shared} {R : Value → Shared → Prop} (I : Inv X pins σ H s) (hst : X.stack = X.env :: X.outer) (hfr : X.env.frame = some X.env.locals) (hex : X.ex = []) (h : Fly X.prog X.w X.stack H s E e s') :
    wpAny (model X.prog X.w) X.A (leaving X.env e) (fun _ s'' => Fly X.prog X.w X.outer X.H₀ X.s₀ E e s'') R s' := by
  obtain ⟨ea, cls, H', rfl, F, q⟩ := h
  obtain ⟨B, t, fl, cov⟩ := F.fl
  refine wpAny_leaves_onW (by rw [I.ok.frames, hst]) hfr (hst ▸ fl) fun h2 fl2 up => ?_
  exact ⟨ea, cls, H', rfl, fly_out (s2 := { s' with heap := h2 }) I hst hfr hex F.os F.bare (held_un I F.un cov fl2.1 up) (held_ok I F.un cov fl2.1 F.hok) (cov_on F.un F.hok cov fl2.1) fl2, q⟩
theorem leave_new {E : XK} {e C : Addr} {args : List Value} {h' : Heap} {R : Value → Shared → Prop} (I : Inv X pins σ H s) (hst : X.stack = X.env :: X.outer) (hfr : X.env.frame = some X.env.locals) (hex : X.ex = [])
    (hx : Heap.MadeExcOf s.heap h' e (.ref C) args) (q : E (.ref C) none H) :
    wpAny (model X.prog X.w) X.A (leaving X.env (.ref e)) (fun _ s'' => Fly X.prog X.w X.outer X.H₀ X.s₀ E (.ref e) s'') R { s with heap := h' } := by
  have hin : ∀ env ∈ X.env :: X.outer, ∀ a, env.frame = some a → a ∈ frs X.stack := fun env he a ha => by rw [hst]; exact List.mem_filterMap.mpr ⟨env, he, ha⟩
  have cov : ∀ b o, s.heap.get? b = some o → (H b ≠ none ∨ ∃ o₀, s.heap.get? b = some o₀) → b ∉ frs X.stack → (PySem.W.hideAll s.heap (frs X.stack)).get? b = some o := fun b o e _ nb => PySem.W.hideAll_get _ e nb
  refine wpAny_leaves_madeW (base := PySem.W.hideAll s.heap (frs X.stack)) (by rw [I.ok.frames, hst]) hfr (fun b o z => PySem.W.of_hideAll _ z) (PySem.W.funFrames_hide (hst ▸ I.stack) hin) hx fun h2 t fl _ _ up => ?_
  have up2 : s.heap.UpToSlots h2 := (Heap.UpToSlots.of_keeps hx.keeps).trans up
  exact ⟨e, .ref C, H, rfl, fly_out (s2 := { s with heap := h2 }) I hst hfr hex rfl I.bare (held_un I Un.refl cov fl.1 up2) (held_ok I Un.refl cov fl.1 I.hok) (cov_on Un.refl I.hok cov fl.1) fl, q⟩
end
end Ov
set_option Elab.async false
set_option linter.all false
set_option maxRecDepth 100000
namespace Ov
open PySem PySem.Spec PyProof.Rows L2
abbrev bmV : List Value := [.type "ValueError", .type "Exception", .type "BaseException", .type "object"]
structure Own (K : PySem.W.Frag) (mg : Str → Option Value) (x : Str) (C : Addr) : Prop where
  mg : mg x = some (.ref C)
  own : PySem.W.excIn K C bmV "ValueError.__new__" = true
  xc : XCls K C
theorem own_obj {K : PySem.W.Frag} {h : Heap} {C : Addr} {bmB : List Value} {newId : String} (X : K.In h) (q : PySem.W.excIn K C bmB newId = true) :
    ∃ bm N nm qn bs hd sn sub ab col dd k0 k1 k2 k3 k5 mN, h.get? C = some (excClassObj nm qn C N bs bm hd sn sub ab col dd k0 k1 k2 k3 k5 newId) ∧ h.Ns N mN ∧ mN "__init__" = none ∧ OwnTail h bmB bm := by
  unfold PySem.W.excIn at q
  split at q
  · next dd cd sl ho =>
    split at q
    · next C' bm k0 k1 k2 k3 n k5 hm hs =>
      simp only [beq_iff_eq, Bool.and_eq_true, Bool.not_eq_true'] at q
      obtain ⟨⟨⟨⟨⟨rfl, rfl⟩, e3⟩, e4⟩, e5⟩, e6⟩ := q
      cases cd with
      | mk nm bs mro ns qn hd sn sub ab col del =>
        have hm : mro = .ref C' :: bm := hm
        have e3 : del = false := e3
        subst hm; subst e3
        have hsl : sl = #[k0, k1, k2, k3, some (.builtin n), k5] := Array.toList_inj.mp hs
        subst hsl
        exact ⟨bm, ns, nm, qn, bs, hd, sn, sub, ab, col, dd, k0, k1, k2, k3, k5, _, X _ _ ho, .of_isNs (PySem.W.isNs_of_in X e5), PySem.W.nsMap_none_of_in X e5 e6, PySem.W.tail_of_in X e4⟩
    · cases q
  · cases q
def tRaise (C : Addr) (E : XK) (t : TA) : TS := fun _ σ H => t σ H fun vs H1 => vs.length ≤ sizeLine ∧ E (.ref C) none H1
def Throws (X : Cx) (E : XK) : Prop := ∀ (pins : List (Addr × Obj)) (σ : L2.St) (H : Hp) (s : Shared) (e C : Addr) (args : List Value) (h' : Heap), Inv X pins σ H s → Heap.MadeExcOf s.heap h' e (.ref C) args → E (.ref C) none H → X.xe (.ref e) { s with heap := h' }
theorem ps_raiseL {X : Cx} {E : XK} {x : Str} {C : Addr} {e : Expr} {es : List Expr} {np cpos pos : Pos} {t : TA} (O : Own X.K X.mg x C) (hc : X.calm = true) (hx : Throws X E) (hg : Gl X x) (ha : PA X (e :: es) t)
    (hd : (x == ("__debug__" : Str)) = false := by decide) (he : starEach (e :: es) X.env = (false, eval e X.env) :: starEach es X.env := by rfl) (hpl : (backTo cpos (starEach es X.env)).any (·.1) = false := by rfl) :
    PS X (.Raise (some (.Call (.Name x np) (e :: es) [] cpos)) none pos) (tRaise C E t) := by
  intro pins s σ H D I h
  obtain ⟨bm, N, nm, qn, bs, hd', sn, sub, ab, col, dd, k0, k1, k2, k3, k5, mN, hC, hN, hni, T⟩ := own_obj I.mod.kin O.own
  have hplain : (backTo cpos (starEach (e :: es) X.env)).any (·.1) = false := by
    rw [he]
    show (false || (backTo cpos (starEach es X.env)).any (·.1)) = false
    rw [hpl]; rfl
  refine wpAny_Raise_call_subT (C := C) (N := N) (nm := nm) (q := qn) (bs := bs) (hdct := hd') (sn := sn) (sub := sub) (ab := ab) (col := col) (dd := dd) (k0 := k0) (k1 := k1) (k2 := k2) (k3 := k3) (k5 := k5) PySem.F.excBase_ValueError (T.hasType (by decide +kernel)) (I.ok.hd hc) hplain hni ?_
  refine ld_glob I hg O.mg ⟨rfl, ?_⟩ hd
  have key := thn (ha cpos pins s σ H _ I h) (Q' := fun us s1 => us.length ≤ sizeLine ∧ s1.heap.get? C = some (excClassObj nm qn C N bs bm hd' sn sub ab col dd k0 k1 k2 k3 k5 "ValueError.__new__") ∧ s1.heap.Ns N mN ∧ OwnTail s1.heap bmV bm ∧
    ∀ h' e, Heap.MadeExcOf s1.heap h' e (.ref C) us → X.xe (.ref e) { s1 with heap := h' }) fun us s1 ⟨vs, H1, I1, r, z, q⟩ =>
      ⟨by rw [← r.length]; exact z, I1.bk _ _ hC, hN.keeps I1.bk, T.keeps I1.bk, fun h' ea hm => hx pins σ H1 s1 ea C us h' I1 hm q⟩
  rw [he] at key ⊢
  exact PySem.Calls.evalArgs_plain (thn key fun _ _ z => ⟨rfl, z⟩)
section
variable {P : Program} {w : World} {K : PySem.W.Frag} {mg : Str → Option Value} {base : Heap} {N : List Str} {qual : Str} {scope : Scope} {f : Addr} {cd : Value} {A : Around} {outer : List Env} {s : Shared} {H : Hp} {E : XK}
abbrev cxF (P : Program) (w : World) (K : PySem.W.Frag) (mg : Str → Option Value) (base : Heap) (N : List Str) (qual : Str) (scope : Scope) (f : Addr) (cd : Value) (A : Around) (outer : List Env) (s : Shared) (H : Hp) (E : XK) : Cx := cxOf (Fly P w) P w K mg base N qual scope f cd A outer s H E
theorem cxF_throws : Throws (cxF P w K mg base N qual scope f cd A outer s H E) E := fun pins σ H1 s1 e C args h' I hm q =>
  leave_new (X := cxF P w K mg base N qual scope f cd A outer s H E) I rfl rfl rfl hm q
theorem cxF_passes : Passes (Fly P w) (cxF P w K mg base N qual scope f cd A outer s H E) E := fun pins σ H1 s1 e s' I h =>
  leave_fly (X := cxF P w K mg base N qual scope f cd A outer s H E) I rfl rfl rfl h
theorem cxF_own : PassesOwn (model P w) (cxF P w K mg base N qual scope f cd A outer s H E).A (cxF P w K mg base N qual scope f cd A outer s H E).env (cxF P w K mg base N qual scope f cd A outer s H E).xe := PassesOwn.leaving
theorem okX {x qual : Str} {st : Stmt} {f : Addr} {fd : FuncData} {N ps : List Str} {k : Nat} {sp : Sp} (F : Fun K x qual st f fd) (S : FnScope N ps (defScope st)) (len : ∀ vs H Q E, sp vs H Q E → vs.length = ps.length)
    (hbody : ∀ (cdv : Value) (A : Around) (outer : List Env) (s : Shared) (H : Hp) (vs : List V) (Q : VK) (E : XK), Room k (A.deeper (envOfC qual (defScope st) s.heap.objs.size f cdv)) → sp vs H Q E →
      ∃ t, QB (cxF P w K mg base N qual (defScope st) f cdv A outer s H E) (defBody st) t ∧ t { nx := fun _ H' => Q .non H', rt := Q } (start N vs) H) : FnOk P w K mg base (Fly P w) (k + 1) f fd ps sp := by
  obtain ⟨oc, od, kV, doc, pm, an, cdv, ct, osl, rfl, lk, hcd⟩ := F.ex
  refine fn_of lk hcd S len fun A outer s H vs Q E hr hsp => ?_
  obtain ⟨t, h, q⟩ := hbody cdv A outer s H vs Q E hr hsp
  exact ⟨t, h.run, q⟩
end
def CanX (P : Program) (w : World) (K : PySem.W.Frag) (mg : Str → Option Value) (base : Heap) (k : Nat) (x : Str) (ps : List Str) (sp : Sp) : Prop :=
  ∃ f fd, FnOk P w K mg base (Fly P w) k f fd ps sp ∧ Binds K fd ps [] ∧ PySem.W.keepIn K (.ref f) = true ∧ mg x = some (.ref f)
theorem pe_canX {X : Cx} {k k' : Nat} {x : Str} {ps : List Str} {sp : Sp} {p pos : Pos} {e : Expr} {es : List Expr} {t : TA} {E : XK} (C : CanX X.prog X.w X.K X.mg X.base k x ps sp) (hx : Passes (Fly X.prog X.w) X E) (hr : Room k' X.A) (hk : k ≤ k') (hg : Gl X x) (ha : PA X (e :: es) t)
    (hdb : (x == ("__debug__" : Str)) = false := by decide) (he : starEach (e :: es) X.env = (false, eval e X.env) :: starEach es X.env := by rfl) (hpl : (backTo pos (starEach es X.env)).any (·.1) = false := by rfl) :
    PE X (.Call (.Name x p) (e :: es) [] pos) (tCall sp [] E t) := by
  obtain ⟨f, fd, F, b, kp, m⟩ := C
  exact pe_call F (hr.mono hk) hg m kp b .nil hx ha hdb he hpl
theorem Def.canX {P : Program} {w : World} {K : PySem.W.Frag} {mg : Str → Option Value} {base : Heap} {x : Str} {st : Stmt} {k : Nat} {ps : List Str} {sp : Sp} (D : Def K mg x st)
    (h : ∀ f fd, Fun K x x st f fd → FnOk P w K mg base (Fly P w) k f fd ps sp)
    (hb : ∀ (kV doc pm : Value) (an : Option Addr) (cdv ct : Value) (us : List Value), us.length = ps.length → bindArgs (PySem.W.fnOf x x (defArgs st) (defBody st) (defScope st) .none kV doc pm an cdv ct) ⟨us, []⟩ = pure (ps.zip us)) :
    CanX P w K mg base k x ps sp := by
  obtain ⟨f, fd, F, m⟩ := D
  exact ⟨f, fd, h f fd F, F.binds hb, F.kp, m⟩
section
variable {X : Cx} {pins pn : List (Addr × Obj)} {σ : L2.St} {H H' : Hp} {s : Shared}
theorem FlyAt.new {ea : Addr} {cls : Value} {s' : Shared} (I : Inv X pins σ H s) (F : FlyAt X.prog X.w X.stack H s ea cls H' s') : H' ea = none ∧ s.heap.get? ea = none := by
  obtain ⟨B, t, fl, cov⟩ := F.fl
  obtain ⟨oe, vs, he, _, hd, _⟩ := fl.first
  have nf : ea ∉ frs X.stack := fun hb => by
    obtain ⟨_, o, ho, hn⟩ := frame_no I F.un hb
    rw [he] at ho; cases ho
    exact hn vs hd
  have no : ¬ (H' ea ≠ none ∨ ∃ o₀, s.heap.get? ea = some o₀) := fun z => by
    have := cov ea oe he z nf
    rw [fl.2.1] at this; cases this
  refine ⟨?_, ?_⟩
  · cases q : H' ea with
    | none => rfl
    | some u => exact absurd (.inl (by rw [q]; exact fun z => nomatch z)) no
  · cases q : s.heap.get? ea with
    | none => rfl
    | some u => exact absurd (.inr ⟨u, q⟩) no
end
end Ov
set_option Elab.async false
set_option linter.all false
set_option maxRecDepth 100000
namespace Ov
open PySem PySem.Spec PyProof.Rows
open L2 (V HO Hp Inv Cx St VK TE TT TA TS Ends Loc Gl RelV Vals OpR CallR tCall upd E0 Room XK Passes)
section
variable {X : Cx} {e : Expr} {es : List Expr} {t : TA} {x : Str} {np cpos pos p : Pos}
end
open PySem.W in
def xclsB (K : Frag) (D : Addr) : Bool := (clsIn K D).isSome && findIn K (.ref D) "__getattribute__" == some (some (.builtin "BaseException.__getattribute__")) && findIn K (.ref D) "__getattr__" == some none &&
  findIn K (.ref D) "__class__" == some (some (.builtin "object.__class__")) && specialIn K (.builtin "object.__class__") "__get__" == some (some (.builtin "getset_descriptor.__get__")) && takesIn K (.builtin "object.__class__") == some true &&
  mroIn K D (.type "object") == some true && subIn K (.ref D) (.type "BaseException") == some true
theorem xcls_of {K : PySem.W.Frag} {D : Addr} (h : xclsB K D = true) : XCls K D := by
  simp only [xclsB, Bool.and_eq_true, beq_iff_eq] at h
  obtain ⟨⟨⟨⟨⟨⟨⟨a, b⟩, c⟩, d⟩, e⟩, f⟩, g⟩, i⟩ := h
  exact ⟨a, b, c, d, e, f, g, i⟩
open L2 (tAsg tLst tCons tNil tVar tC tCB gName)
theorem _root_.L2.Room.units61 {k : Nat} {A : Around} (r : Room k A) : A.units + 61 < cLine := by have := r.un; omega
end Ov
set_option Elab.async false
set_option linter.all false
set_option maxRecDepth 100000
namespace Ov
open PySem PySem.Spec PyProof.Rows L2
def TabOk (P : Addr) (h : Heap) : Prop := ∃ ps : Array Value, h.get? P = some { cls := .none, data := .fields ps } ∧ TriplesOk ps.toList
def CodeT (K : PySem.W.Frag) (c P : Addr) : Prop := c ≠ P ∧ ∃ (o : Obj) (vs : Array Value) (file : Str) (tf : Tok) (flags : Int) (tg : Tok) (inF : Bool) (text : Int) (tt : Tok),
  K.lookup c = some o ∧ o.cls = .type "code" ∧ o.data = .fields vs ∧ vs[11]? = some (.ref P) ∧ vs.getD 18 .none = .str file tf ∧ vs.getD 7 .none = .int flags tg ∧ vs.getD 9 .none = .bool inF ∧ vs.getD 10 .none = .int text tt
def BMain (mg : Str → Option Value) (h : Heap) : Prop := ∃ bm ob, mg "__builtins__" = some (.ref bm) ∧ bm ≠ builtinsNs ∧ h.get? bm = some ob ∧ ob.cls = .type "module" ∧ ob.dict = some builtinsNs ∧ ob.data = .plain
theorem CodeT.at {K : PySem.W.Frag} {h : Heap} {c P : Addr} {ps : Array Value} (Z : CodeT K c P) (X : K.In h) (hp : h.get? P = some { cls := .none, data := .fields ps }) (tr : TriplesOk ps.toList) : h.IsCode c P ps ∧ h.TableAt c P ps := by
  obtain ⟨ne, o, vs, file, tf, flags, tg, inF, text, tt, lk, hc, hd, h11, h18, h7, h9, h10⟩ := Z
  have e11 : vs.getD 11 .none = .ref P := by
    rw [Array.getD_eq_getD_getElem?, h11]; rfl
  exact ⟨⟨o, vs, file, tf, flags, tg, inF, text, tt, _, X _ _ lk, hd, e11, h18, h7, h9, h10, hp, rfl, tr, ne⟩, ⟨o, vs, X _ _ lk, hc, hd, h11⟩, hp⟩
section
variable {X : Cx} {pins : List (Addr × Obj)} {σ : L2.St} {H : Hp} {s : Shared} {c P : Addr}
theorem inv_tab {s' : Shared} (I : Inv X pins σ H s) (hP : H P = some (.ext (TabOk P))) (os : s'.os = s.os) (bare : AllBare s'.gens) (k : ∀ b o, b ≠ P → s.heap.get? b = some o → s'.heap.get? b = some o) (t : TabOk P s'.heap) : Inv X pins σ H s' := by
  have nP : ∀ b, H b = none → b ≠ P := fun b n z => by rw [z, hP] at n; cases n
  have hok : HOk X.prog X.w H s'.heap := fun b u e => by
    by_cases hb : b = P
    · subst hb
      rw [hP] at e; cases e
      obtain ⟨ps, hp, _⟩ := id t
      exact ⟨t, ⟨_, hp⟩, ((I.hok b _ hP)).2.2⟩
    · refine (I.hok b u e).stay (fun d v hd q => k d v ?_ q) (fun _ q => q) fun _ _ q => q
      rcases hd with rfl | hd
      · exact hb
      · intro z
        rw [z, hP] at hd; cases hd
  have un : Un (frs X.stack) [] H H s.heap s'.heap := ⟨fun b o e n _ _ => k b o (nP b n) e, fun b o e n _ _ => ⟨o.slots, k b o (nP b n) e⟩, fun _ _ _ n _ => n, fun b o e _ => by
    by_cases hb : b = P
    · subst hb
      obtain ⟨ps, hp, _⟩ := t
      exact ⟨_, hp⟩
    · exact ⟨o, k b o hb e⟩, fun _ _ q => q, fun _ _ _ q => q, fun _ ps q => ⟨#[], by rw [q]; simp⟩⟩
  exact I.call' os un hok bare fun b z => absurd z (by simp)
theorem gen_code {M : Model} {A : Around} {E : Value → Shared → Prop} {env : Env} {pos : Pos} {q : Str} {sc : Scope} {Q : Value → Shared → Prop} {s : Shared} (hc : env.code = .ref c) (Z : CodeT X.K c P) (kin : X.K.In s.heap) (t : TabOk P s.heap)
    (h : ∀ code h' tk, (∀ b o, b ≠ P → s.heap.get? b = some o → h'.get? b = some o) → s.heap.objs.size ≤ h'.objs.size → TabOk P h' → Q code { s with heap := h', toks := tk }) : wpAny M A (genexprCode env pos q sc) Q E s := by
  obtain ⟨ps, hp, tr⟩ := t
  obtain ⟨ic, ta⟩ := Z.at kin hp tr
  cases hf : codeAmong pos ps.toList with
  | some c' => exact wpAny_genexprCode_hit hc ic hf (h c' s.heap s.toks (fun _ _ _ e => e) (Nat.le_refl _) ⟨ps, hp, tr⟩)
  | none =>
    refine wpAny_genexprCodeX hc ic ta hf fun c' h' tk ext l1 l2 ic' _ ta' _ => h _ h' tk (fun b o nb e => ext b o nb e) (Nat.le_of_lt (Nat.lt_of_le_of_lt l1 l2)) ⟨_, ta'.2, ?_⟩
    obtain ⟨_, _, _, _, _, _, _, _, _, _, _, _, _, _, _, _, _, hop, hpd, tr', _⟩ := ic'
    exact tr'
theorem all_elim {α : Type} (B : List α) (q : α → Bool) : ((List.range B.length).all fun j => (B[j]?).elim true q) = B.all q := by
  rw [Bool.eq_iff_iff, List.all_eq_true, List.all_eq_true]
  refine ⟨fun h b hb => ?_, fun h j hj => ?_⟩
  · obtain ⟨j, hj, rfl⟩ := List.getElem_of_mem hb
    have := h j (List.mem_range.mpr hj)
    rwa [List.getElem?_eq_getElem hj] at this
  · have hj := List.mem_range.mp hj
    rw [List.getElem?_eq_getElem hj]
    exact h _ (List.getElem_mem hj)
def signIn (tx : Str) (ch : Nat) : Bool := !(Builtin.Str.occurrences tx ⟨#[ch]⟩ 0 tx.length 1).isEmpty
def tAllIn (P : Addr) (tx : Str) (ti : TE) : TE := fun σ H Q => ti σ H fun v H1 => ∃ y : Str, v = .str y ∧ H1 P = some (.ext (TabOk P)) ∧ Q (.bl (y.cps.toList.all (signIn tx))) H1
theorem quiet_in {prog : Program} {w : World} {env : Env} {scope : Scope} {x g : Str} {tx y : Str} {tt : Tok} {C : Addr} {code : Value} {fp wr : List Addr} {href : Heap} {D U : Nat} {p1 p2 p3 : Pos} {mg : Str → Option Value} (sck : scope.kind = .function) (hx : scope.names.lookup x = some .local) (hg : scope.names.lookup g = some .globalImplicit)
    (ns : href.Ns env.globals mg) (hm : mg g = some (.str tx tt)) (h1 : env.globals ∈ fp) (h2 : env.globals ∉ wr) (hmk : behindInMarks .In (.Name g p2) = false) (hdx : (x == ("__debug__" : Str)) = false) (hdg : (g == ("__debug__" : Str)) = false) :
    QuietGenD prog w (genEnv scope [] C code builtinsNs env) x [] (.Compare (.Name x p1) [.In] [.Name g p2] p3) fp wr (SignAt y) (fun _ => true) (fun i v => ∃ ch, y.cps[i]? = some ch ∧ v = .bool (signIn tx ch)) href D U where
  tests := fun A' E' i v s₂ m₂ _ _ _ _ _ _ _ => wpAny_pure ⟨rfl, _, _, rfl, fun _ _ e => e⟩
  elt := fun A' E' i v s₂ m₂ _ _ _ hP _ hn hmx hk => by
    obtain ⟨ch, u, hch, rfl⟩ := hP
    refine wpAny_Compare1 (wpAny_Name (wpAny_loadName_local (show (genEnv scope [] C code builtinsNs env).scope.kind = .function from sck) (show (genEnv scope [] C code builtinsNs env).kindOf x = some .local from hx) hn hmx ?_) hdx) hmk
    refine Calls.Name_function_global (show (genEnv scope [] C code builtinsNs env).scope.kind = .function from sck) (show (genEnv scope [] C code builtinsNs env).kindOf g = some .globalImplicit from hg) (Calls.loadGlobal_global (ns.at' fun o e => hk _ h1 h2 o e) hm ?_) hdg
    exact in_str ⟨⟨ch, hch, rfl⟩, _, _, rfl, fun _ _ e => e⟩
theorem pe_allInL {x g : Str} {p px p1 p2 p3 gpos cpos : Pos} {iter : Expr} {ti : TE} {scope : Scope} {tx : Str} {tt : Tok} (hcalm : X.calm = true) (Bm : BMain X.mg X.base) (hcode : X.env.code = .ref c) (Z : CodeT X.K c P) (hdep : X.A.depth < recursionLimit)
    (hgl : Gl X "all") (hma : X.mg "all" = none) (hsg : X.mg g = some (.str tx tt)) (hi : PE X iter ti) (sck : scope.kind = .function) (hco : scope.isCoroutine = false) (hclos : closureFor scope X.env = pure []) (hcell : ∀ y ∈ scope.names, y.2 ≠ .cell)
    (h0 : scope.names.lookup (".0" : Str) = some NameKind.local) (hx : scope.names.lookup x = some .local) (hsc : scope.names.lookup g = some .globalImplicit) (hmk : behindInMarks .In (.Name g p2) = false) (hs : ∀ x, genFold iter X.env x = pure x)
    (hst : starEach [.GeneratorExp (.Compare (.Name x p1) [.In] [.Name g p2] p3) [⟨.Name x px, iter, [], 0⟩] scope gpos] X.env = [(false, eval (.GeneratorExp (.Compare (.Name x p1) [.In] [.Name g p2] p3) [⟨.Name x px, iter, [], 0⟩] scope gpos) X.env)])
    (hdx : (x == ("__debug__" : Str)) = false) (hdg : (g == ("__debug__" : Str)) = false) :
    PE X (.Call (.Name "all" p) [.GeneratorExp (.Compare (.Name x p1) [.In] [.Name g p2] p3) [⟨.Name x px, iter, [], 0⟩] scope gpos] [] cpos) (tAllIn P tx ti) := by
  intro pins s σ H Q I h
  refine wpAny_Call_Name_kw (ld_blt I hgl hma PyProof.Rows.Boot.«all» ?_)
  refine PyProof.Rows.callWith_builtin1 ?_ hst rfl
  rw [hst]
  show wpAny _ _ (spliced ((false, eval (.GeneratorExp (.Compare (.Name x p1) [.In] [.Name g p2] p3) [⟨.Name x px, iter, [], 0⟩] scope gpos) X.env) :: [])) _ _ s
  refine Calls.spliced_cons ?_
  refine wpAny_GeneratorExp_walksQD (I.ok.hd hcalm) hco hclos hcell h0 hx sck hdep ?_ hs
  refine thn (hi pins s σ H _ I h) fun xv s1 ⟨v, H1, I1, r1, y, ev, hP, q⟩ => ?_
  subst ev
  obtain ⟨ty, rfl⟩ := r1
  have t1 : TabOk P s1.heap := (I1.hok P _ hP).1
  have ltP : P < s1.heap.objs.size := I1.hok.lt hP
  refine wpAny_pyIter_str fun o St W st0 => ?_
  have k1 : ∀ b ob, s1.heap.get? b = some ob → (s1.heap.push o).get? b = some ob := fun b ob e => Heap.get?_push_of_some _ e
  refine ⟨I1.nolimit.keeps k1, ?_⟩
  have t2 : TabOk P (s1.heap.push o) := let ⟨ps, hp, tr⟩ := t1; ⟨ps, k1 _ _ hp, tr⟩
  refine gen_code (X := X) (s := { s1 with heap := s1.heap.push o }) hcode Z (I1.kIn.keeps k1) t2 fun code h' tk k sz t' => ?_
  have kk : ∀ b ob, b ≠ P → s1.heap.get? b = some ob → h'.get? b = some ob := fun b ob nb e => k b ob nb (k1 b ob e)
  have nsP : ∀ (b : Addr) (m : Str → Option Value), s1.heap.Ns b m → b ≠ P := fun b m hn z => by
    obtain ⟨ob, es, ep, ho, hd, _⟩ := hn
    obtain ⟨ps, hp, _⟩ := t1
    rw [z, hp] at ho; cases ho; cases hd
  have nsK : ∀ (b : Addr) (m : Str → Option Value), s1.heap.Ns b m → h'.Ns b m := fun b m hn => hn.at' fun ob e => kk b ob (nsP b m hn) e
  have nsG : s1.heap.Ns X.env.globals X.mg := by rw [I1.ok.glob]; exact I1.mod.glob.keeps I1.bk
  have nl : h'.NoLimit := let ⟨mc, h1, h2⟩ := I1.nolimit; ⟨mc, nsK _ _ h1, h2⟩
  have ltC : cStatics < s1.heap.objs.size := let ⟨mc, h1, _⟩ := I1.nolimit; h1.lt
  have szI : s1.heap.objs.size < h'.objs.size := Nat.lt_of_lt_of_le (by rw [Heap.size_push]; exact Nat.lt_succ_self _) sz
  obtain ⟨bm, ob, b1, b2, b3, b4, b5, b6⟩ := Bm
  have b3' := I1.bk _ _ b3
  have nbm : bm ≠ P := fun z => by
    obtain ⟨ps, hp, _⟩ := t1
    rw [z, hp] at b3'
    rw [← Option.some.inj b3'] at b6; cases b6
  refine wpAny_builtinsFor (nsK _ _ nsG) b1 b2 (kk _ _ nbm b3') b4 b5 b6 ?_
  refine ⟨s1.heap.objs.size, [s1.heap.objs.size], [s1.heap.objs.size], y.cps.size, SignAt y, St, fun _ => true, fun i v => ∃ ch, y.cps[i]? = some ch ∧ v = .bool (signIn tx ch), rfl, W,
    (W X.A (I.ok.hd hcalm)).frame _ _ _ st0 fun b hb o' e => k b o' (by rw [List.mem_singleton.mp hb]; exact Nat.ne_of_gt ltP) e, fun b hb => by rw [List.mem_singleton.mp hb]; exact szI, nl,
    fun hb => Nat.ne_of_lt ltC (List.mem_singleton.mp hb), fun href kh => quiet_in sck hx hsc ((nsK _ _ nsG).keeps kh) hsg (List.mem_range.mpr (nsK _ _ nsG).lt) (fun hb => Nat.ne_of_lt nsG.lt (List.mem_singleton.mp hb)) hmk hdx hdg, fun a h5 tk5 gs hgs ltA szA k5 WS G => ?_⟩
  refine Calls.spliced_nil ?_
  have pall : passing (fun _ => true) y.cps.size 0 = List.range y.cps.size := by simp [passing]
  have WS := WS.in4_1
  refine call_all_walkS (WS.self 0 _ _ _ G ⟨a, _, _, _, _, _, _, (fun j => (y.cps.toList[j]?).elim true (signIn tx)), rfl, WS, G, fun j v s Q E hv hQ => ?_, fun s' hm => ?_⟩)
  · obtain ⟨i, hi, ch, hch, rfl⟩ := hv
    rw [pall] at hi
    have hji : i = j := by
      obtain ⟨hj, e⟩ := List.getElem?_eq_some_iff.mp hi
      simpa using e.symm
    subst hji
    have e : y.cps.toList[i]? = some ch := by simpa using hch
    simp only [e, Option.elim] at hQ
    exact wpAny_truthy_bool hQ
  · have nwr : ∀ b, b < s1.heap.objs.size → b ∉ h'.objs.size :: [s1.heap.objs.size] := fun b hb hm => by
      rcases List.mem_cons.mp hm with z | z
      · omega
      · have := List.mem_singleton.mp z
        omega
    refine ⟨.bl _, H1, inv_tab I1 hP hm.os ((I1.bare.push hgs).movedS hm) (fun b o' nb e => hm.heap b o' (nwr b (Heap.lt_size e)) (k5 b o' (kk b o' nb e))) ?_, rfl, ?_⟩
    · obtain ⟨ps, hp, tr⟩ := t'
      exact ⟨ps, hm.heap P _ (nwr P ltP) (k5 P _ hp), tr⟩
    · rw [pall]
      have e : y.cps.size = y.cps.toList.length := by simp
      have z := all_elim y.cps.toList (signIn tx)
      rw [List.length_range, e, z]
      exact q
end
end Ov
set_option Elab.async false
set_option linter.all false
set_option maxRecDepth 100000
namespace Ov
open PySem PySem.Spec PyProof.Rows L2
section
variable {X : Cx} {c P : Addr}
theorem pe_allIn {x g : Str} {p px p1 p2 p3 gpos cpos : Pos} {iter : Expr} {ti : TE} {scope : Scope} {tx : Str} {tt : Tok} {k : Nat} (hcalm : X.calm = true) (Bm : BMain X.mg X.base) (hcode : X.env.code = .ref c) (Z : CodeT X.K c P) (hr : Room k X.A)
    (hgl : Gl X "all") (hma : X.mg "all" = none) (hsg : X.mg g = some (.str tx tt)) (hi : QE X iter ti) (sck : scope.kind = .function := by rfl) (hco : scope.isCoroutine = false := by rfl) (hclos : closureFor scope X.env = pure [] := by rfl) (hcell : ∀ y ∈ scope.names, y.2 ≠ .cell := by decide)
    (h0 : scope.names.lookup (".0" : Str) = some NameKind.local := by rfl) (hx : scope.names.lookup x = some .local := by rfl) (hsc : scope.names.lookup g = some .globalImplicit := by rfl) (hmk : behindInMarks .In (.Name g p2) = false := by with_unfolding_all rfl) (hs : ∀ x, genFold iter X.env x = pure x := by intro _; rfl)
    (hst : starEach [.GeneratorExp (.Compare (.Name x p1) [.In] [.Name g p2] p3) [⟨.Name x px, iter, [], 0⟩] scope gpos] X.env = [(false, eval (.GeneratorExp (.Compare (.Name x p1) [.In] [.Name g p2] p3) [⟨.Name x px, iter, [], 0⟩] scope gpos) X.env)] := by rfl)
    (hdx : (x == ("__debug__" : Str)) = false := by decide) (hdg : (g == ("__debug__" : Str)) = false := by decide) :
    QE X (.Call (.Name "all" p) [.GeneratorExp (.Compare (.Name x p1) [.In] [.Name g p2] p3) [⟨.Name x px, iter, [], 0⟩] scope gpos] [] cpos) (tAllIn P tx ti) :=
  ⟨pe_allInL hcalm Bm hcode Z (by have := hr.dp; omega) hgl hma hsg hi.run sck hco hclos hcell h0 hx hsc hmk hs hst hdx hdg⟩
end
structure FunG (K : PySem.W.Frag) (mg : Str → Option Value) (x : Str) (st : Stmt) (P : Addr) (f : Addr) (fd : FuncData) (c : Addr) : Prop where
  fn : Fun K x x st f fd
  mg : mg x = some (.ref f)
  code : fd.code = .ref c
  tab : CodeT K c P
  out : K.lookup P = none
def DefG (K : PySem.W.Frag) (mg : Str → Option Value) (x : Str) (st : Stmt) (P : Addr) : Prop := ∃ f fd c, FunG K mg x st P f fd c
section
variable {P : Program} {w : World} {K : PySem.W.Frag} {mg : Str → Option Value} {base : Heap}
theorem okG {x : Str} {st : Stmt} {T f c : Addr} {fd : FuncData} {N ps : List Str} {k : Nat} {sp : Sp} (F : FunG K mg x st T f fd c) (S : FnScope N ps (defScope st)) (len : ∀ vs H Q E, sp vs H Q E → vs.length = ps.length)
    (hbody : ∀ (A : Around) (outer : List Env) (s : Shared) (H : Hp) (vs : List V) (Q : VK) (E : XK), Room k (A.deeper (envOfC x (defScope st) s.heap.objs.size f (.ref c))) → sp vs H Q E →
      ∃ t, QB (cxOf CX0 P w K mg base N x (defScope st) f (.ref c) A outer s H E).nox (defBody st) t ∧ t { nx := fun _ H' => Q .non H', rt := Q } (start N vs) H) : FnOk P w K mg base CX0 (k + 1) f fd ps sp := by
  obtain ⟨oc, od, kV, doc, pm, an, cdv, ct, osl, rfl, lk, hcd⟩ := F.fn.ex
  obtain rfl : cdv = .ref c := F.code
  refine fn_of lk hcd S len fun A outer s H vs Q E hr hsp => ?_
  obtain ⟨t, h, q⟩ := hbody A outer s H vs Q E hr hsp
  exact ⟨t, h.run.nox, q⟩
theorem DefG.can {x : Str} {st : Stmt} {T : Addr} {k : Nat} {ps : List Str} {sp : Sp} (D : DefG K mg x st T)
    (h : ∀ f fd c, FunG K mg x st T f fd c → FnOk P w K mg base CX0 k f fd ps sp)
    (hb : ∀ (kV doc pm : Value) (an : Option Addr) (cdv ct : Value) (us : List Value), us.length = ps.length → bindArgs (PySem.W.fnOf x x (defArgs st) (defBody st) (defScope st) .none kV doc pm an cdv ct) ⟨us, []⟩ = pure (ps.zip us)) :
    Can P w K mg base k x ps sp := by
  obtain ⟨f, fd, c, F⟩ := D
  exact ⟨f, fd, h f fd c F, F.fn.binds hb, F.fn.kp, F.mg⟩
end
def codeB (vs : Array Value) : Bool := (match vs.getD 18 .none with | .str _ _ => true | _ => false) && (match vs.getD 7 .none with | .int _ _ => true | _ => false) && (match vs.getD 9 .none with | .bool _ => true | _ => false) && (match vs.getD 10 .none with | .int _ _ => true | _ => false)
theorem defG_mk {K : PySem.W.Frag} {h : Heap} {mg : Str → Option Value} {x : Str} {st : Stmt} (X : K.In h) (G : h.Ns mainGlobals mg) {f c T : Addr} {od an od' : Option Addr} {sl sl' : Array (Option Value)} {vs : Array Value} {oc kV dc pm ct : Value}
    (a : PySem.W.nsIn K mainGlobals x = some (some (.ref f))) (l : K.lookup f = some ⟨oc, od, .func (PySem.W.fnOf x x (defArgs st) (defBody st) (defScope st) .none kV dc pm an (.ref c) ct), sl⟩) (cc : PySem.W.codeIn K (.ref c) x = true) (k : PySem.W.keepIn K (.ref f) = true)
    (t : K.lookup c = some ⟨.type "code", od', .fields vs, sl'⟩) (p : vs[11]? = some (.ref T)) (b : codeB vs = true) (ne : c ≠ T) (out : K.lookup T = none) : DefG K mg x st T := by
  refine ⟨f, _, c, fun_mk l cc k, PySem.W.mg_of X G a, rfl, ⟨ne, ?_⟩, out⟩
  simp only [codeB, Bool.and_eq_true] at b
  obtain ⟨⟨⟨b1, b2⟩, b3⟩, b4⟩ := b
  cases e1 : vs.getD 18 .none with
  | str file tf =>
    cases e2 : vs.getD 7 .none with
    | int fl tg =>
      cases e3 : vs.getD 9 .none with
      | bool inF =>
        cases e4 : vs.getD 10 .none with
        | int text tt => exact ⟨_, vs, file, tf, fl, tg, inF, text, tt, t, rfl, rfl, p, e1, e2, e3, e4⟩
        | _ => rw [e4] at b4; cases b4
      | _ => rw [e3] at b3; cases b3
    | _ => rw [e2] at b2; cases b2
  | _ => rw [e1] at b1; cases b1
def TabIn (K : PySem.W.Frag) (mg : Str → Option Value) (names : List Str) (T : Addr) : Prop := ∃ x ∈ names, ∃ st, DefG K mg x st T
theorem law_callT {P : Program} {w : World} {K : PySem.W.Frag} {mg mb : Str → Option Value} {k : Nat} {fa a : Addr} {fd : FuncData} {x : Str} {sp : Sp} {s₁ : Shared} {vs : List Value} {ns : List Int} {tabs : List Addr}
    (KX : K.In s₁.heap) (hns : s₁.heap.Ns mainGlobals mg) (hb : s₁.heap.Ns builtinsNs mb) (hbb : ∀ x : Str, x ≠ "__name__" → mb x = bootBuiltins x) (hlim : s₁.heap.NoLimit) (hg : s₁.gens = #[])
    (ha : s₁.heap.get? a = some { cls := .type "list", data := .seq vs.toArray }) (hi : IntsAre vs ns) (hl : ns.length ≤ sizeLine) (hr : Room k callerA) (hbm : BMain mg s₁.heap)
    (htab : ∀ T ∈ tabs, isCodeTable s₁.heap T ∧ s₁.heap.get? T = some { cls := .none, data := .fields #[] } ∧ K.lookup T = none)
    (F : ∀ base : Heap, K.In base → base.Ns mainGlobals mg → BMain mg base → FnOk P w K mg base CX0 k fa fd [x] sp) (hbind : ∀ (s : Shared) (u : Value), BindsTo s fd ⟨[u], []⟩ [(x, u)])
    (hsp : ∀ H : Hp, (∀ T ∈ tabs, H T = some (.ext (TabOk T))) → SqL K H a (ns.map V.int) → (∀ b, H b ≠ none → b = a ∨ b ∈ tabs) → (∀ u, H a = some u → ∃ o xs, u = .frz o (.lst xs)) → sp [.ref a] H (fun v H' => v = .bl true ∧ Same H H') fun _ _ _ => False) :
    codeAny (model P w) callerA (.call (.ref fa) ⟨[.ref a], []⟩) (fun r s' => r = .ok (.ret (.bool true)) ∧ OldK s₁.heap s'.heap ∧ s'.os = s₁.os ∧ AllBare s'.gens) s₁ := by
  have rv := vals_ints hi
  have lenV := hi.length
  have naT : ∀ T ∈ tabs, T ≠ a := fun T hT z => by
    have := (htab T hT).2.1
    rw [z, ha] at this
    have h1 := congrArg Obj.cls (Option.some.inj this)
    cases h1
  have core : ∀ H : Hp, (∀ T ∈ tabs, H T = some (.ext (TabOk T))) → SqL K H a (ns.map V.int) → HOk P w H s₁.heap → (∀ b, H b ≠ none → b = a ∨ b ∈ tabs) → (∀ u, H a = some u → K.lookup a = none ∧ ∃ o xs, u = .frz o (.lst xs)) →
      codeAny (model P w) callerA (.call (.ref fa) ⟨[.ref a], []⟩) (fun r s' => r = .ok (.ret (.bool true)) ∧ OldK s₁.heap s'.heap ∧ s'.os = s₁.os ∧ AllBare s'.gens) s₁ := by
    intro H hT hS hok hA hK
    have base_of : ∀ {b : Addr} {o : Obj}, s₁.heap.get? b = some o → H b = none → (hidT s₁.heap H).get? b = some o := fun e n => hidT_get e n
    have no : ∀ {b : Addr} {o : Obj}, s₁.heap.get? b = some o → (∀ xs n, o.data ≠ .seq xs n) → (∀ xs, o.data ≠ .fields xs) → H b = none := fun {b o} e d1 d2 => by
      cases q : H b with
      | none => rfl
      | some u =>
        rcases hA b (by rw [q]; simp) with rfl | hb
        · rw [ha] at e; cases e; exact absurd rfl (d1 _ _)
        · rw [(htab b hb).2.1] at e; cases e; exact absurd rfl (d2 _)
    have nsK : ∀ {b : Addr} {m : Str → Option Value}, s₁.heap.Ns b m → (hidT s₁.heap H).Ns b m := fun {b m} ⟨o, es, ep, e, d, r⟩ => ⟨o, es, ep, base_of e (no e (fun _ _ z => by rw [d] at z; cases z) fun _ z => by rw [d] at z; cases z), d, r⟩
    have hKb : K.In (hidT s₁.heap H) := fun b o e => base_of (KX b o e) (by
      cases q : H b with
      | none => rfl
      | some u =>
        rcases hA b (by rw [q]; simp) with rfl | hb
        · have := (hK u q).1
          exact absurd (this.symm.trans e) (fun z => nomatch z)
        · have := (htab b hb).2.2
          exact absurd (this.symm.trans e) (fun z => nomatch z))
    have hM : Mod K mg (hidT s₁.heap H) := ⟨hKb, nsK hns, ⟨mb, nsK hb, hbb⟩, let ⟨mc, h1, h2⟩ := hlim; ⟨mc, nsK h1, h2⟩⟩
    have hbm' : BMain mg (hidT s₁.heap H) := by
      obtain ⟨bm, ob, b1, b2, b3, b4, b5, b6⟩ := hbm
      exact ⟨bm, ob, b1, b2, base_of b3 (no b3 (fun _ _ z => by rw [b6] at z; cases z) fun _ z => by rw [b6] at z; cases z), b4, b5, b6⟩
    have e0 : Env0 P w K mg (hidT s₁.heap H) callerA [] s₁ H := ⟨rfl, hM, fun b o e => of_hidT e, Nat.le_of_eq (hidT_size _ _), trivial, fun b hb => absurd (show b ∈ ([] : List Addr) from hb) (by simp), hok, .of_eq hg⟩
    refine codeAny_mono ((F _ hKb (nsK hns) hbm').run callerA [] s₁ H ⟨[.ref a], []⟩ [.ref a] [.ref a] _ _ hr e0 (hbind s₁ (.ref a)) (.cons rfl .nil) (hsp H hT hS hA fun u z => (hK u z).2)) fun r s' h => ?_
    cases r with
    | error e => exact False.elim h
    | ok fl =>
      cases fl with
      | next => exact False.elim h
      | brk => exact False.elim h
      | cont => exact False.elim h
      | ret u =>
        obtain ⟨v, H', os, bare, un, hok', r', rfl, same⟩ := h
        obtain rfl : u = Value.bool true := r'
        refine ⟨rfl, ⟨fun b o e => ?_, fun b o e => ?_⟩, os, bare⟩
        · cases q : H b with
          | none => exact .inl (un.keep b o e q (by intro z; exact absurd (show b ∈ ([] : List Addr) from z) (by simp)) (by simp))
          | some u =>
            have q' := same b u q
            rcases hA b (by rw [q]; simp) with rfl | hb'
            · obtain ⟨_, ob, xs, rfl⟩ := hK u q
              obtain ⟨e1, _⟩ := hok _ _ q
              obtain ⟨e2, _⟩ := hok' _ _ q'
              rw [e] at e1; cases e1
              exact .inl e2
            · have hz := hT b hb'
              rw [q] at hz; cases hz
              obtain ⟨⟨ps, hp, _⟩, _⟩ := hok' _ _ q'
              obtain ⟨t1, t2, _⟩ := htab b hb'
              rw [t2] at e; cases e
              exact .inr (.inl ⟨t1, rfl, #[], ps, rfl, by rw [hp]; simp⟩)
        · exact un.there b o e (by simp)
  have hTt : ∀ T ∈ tabs, ∀ H : Hp, ObjOk P w H s₁.heap T (.ext (TabOk T)) := fun T hT H => by
    have := (htab T hT).2.1
    exact ⟨⟨#[], this, trivial⟩, ⟨_, this⟩, fun h1 h2 ⟨ps, hp, tr⟩ kk => ⟨ps, kk _ hp, tr⟩⟩
  cases hk : K.lookup a with
  | some o =>
    have e := KX a o hk
    rw [ha] at e
    cases e
    refine core (fun b => if b ∈ tabs then some (.ext (TabOk b)) else none) (fun T hT => if_pos hT) (.inr ⟨_, vs.toArray, _, hk, rfl, rfl, rfl, by rw [List.size_toArray, lenV]; exact hl, by simpa using rv⟩) (fun b u z => ?_) (fun b z => ?_) fun u z => ?_
    · by_cases hb : b ∈ tabs
      · have z' := (if_pos hb).symm.trans z
        cases z'
        exact hTt b hb _
      · have z' := (if_neg hb).symm.trans z
        cases z'
    · by_cases hb : b ∈ tabs
      · exact .inr hb
      · exact absurd (if_neg hb) z
    · have hb : a ∉ tabs := fun hb => naT a hb rfl
      have z' := (if_neg hb).symm.trans z
      cases z'
  | none =>
    refine core (fun b => if b = a then some (.frz { cls := .type "list", data := .seq vs.toArray } (.lst (ns.map V.int))) else if b ∈ tabs then some (.ext (TabOk b)) else none) (fun T hT => ?_) (.inl (.inr ⟨{ cls := .type "list", data := .seq vs.toArray }, if_pos rfl⟩)) (fun b u z => ?_) (fun b z => ?_) fun u z => ?_
    · show (if T = a then _ else _) = _
      rw [if_neg (naT T hT), if_pos hT]
    · by_cases hb : b = a
      · have z' := (if_pos hb).symm.trans z
        cases z'
        subst hb
        exact ⟨ha, by rw [List.length_map]; exact hl, vs, _, rv, ha⟩
      · have z := (if_neg hb).symm.trans z
        by_cases hb : b ∈ tabs
        · have z' := (if_pos hb).symm.trans z
          cases z'
          exact hTt b hb _
        · have z' := (if_neg hb).symm.trans z
          cases z'
    · by_cases hb : b = a
      · exact .inl hb
      · by_cases hb' : b ∈ tabs
        · exact .inr hb'
        · exact absurd ((if_neg hb).trans (if_neg hb')) z
    · have z' := (if_pos rfl).symm.trans z
      cases z'
      exact ⟨hk, _, _, rfl⟩
theorem tab_at {p : Program} {loose : List Str} {mean : ExcName → Option Value} {mg mb : Str → Option Value} {h : Heap} {K : PySem.W.Frag} {x : Str} {st : Stmt} {T : Addr} (Tp : Top p loose mean mg mb h) (KX : K.In h) (hx : ∃ d ∈ recsOf p, d.name = x) (D : DefG K mg x st T) :
    isCodeTable h T ∧ h.get? T = some { cls := .none, data := .fields #[] } ∧ K.lookup T = none := by
  obtain ⟨f, fd, c, F⟩ := D
  obtain ⟨d, hd, rfl⟩ := hx
  obtain ⟨a', o', fd', c', P', h1, h2, h3, h4, h5, h6⟩ := Tp.tab d hd
  rw [F.mg] at h1; cases h1
  obtain ⟨oc, od, kV, doc, pm, an, cdv, ct, osl, rfl, lk, _⟩ := F.fn.ex
  have := KX _ _ lk
  rw [h2] at this; cases this
  have e3 : fd' = _ := (Data.func.inj h3).symm
  subst e3
  have e4 := F.code.symm.trans h4
  cases e4
  obtain ⟨_, oo, vs, _, _, _, _, _, _, _, lk', _, hd', h11, _⟩ := F.tab
  obtain ⟨⟨o2, vs2, g1, g2, g3, g4⟩, g5⟩ := id h6
  rw [KX _ _ lk'] at g1; cases g1
  rw [hd'] at g3; cases g3
  rw [h11] at g4; cases g4
  exact ⟨h6.isCodeTable, g5, F.out⟩
theorem walk_ofT {l : PySem.W.OpenLaw} {n k : Nat} {q : Program} {loose : List Str} {XP : (Str → Option Value) → Heap → Prop} {YP : World → Heap → Prop} {d : DefRec} {K : Params → PySem.W.Frag} {sp : List Addr → PySem.W.Frag → Sp} {x : Str} (names : List Str)
    (hn : l.most = some n) (hn2 : n ≤ sizeLine) (hdf : d.params.defaults = []) (hr : Room k callerA) (hY : ∀ (w : World) (h : Heap), YP w h → (K w.params).In h) (hnm : ∀ x ∈ names, ∃ d ∈ recsOf q, d.name = x)
    (F : ∀ (w : World) (mg : Str → Option Value) (fa : Addr) (h : Heap), (K w.params).In h → h.Ns mainGlobals mg → mg d.name = some (.ref fa) →
      ∃ (fd : FuncData) (tabs : List Addr), (∀ (s : Shared) (u : Value), BindsTo s fd ⟨[u], []⟩ [(x, u)]) ∧ (∀ T ∈ tabs, TabIn (K w.params) mg names T) ∧
        ∀ base : Heap, (K w.params).In base → base.Ns mainGlobals mg → BMain mg base → FnOk l.prog w (K w.params) mg base CX0 k fa fd [x] (sp tabs (K w.params)))
    (hsp : ∀ (tabs : List Addr) (K : PySem.W.Frag) (H : Hp) (a : Addr) (ns : List Int), ns.length ≤ n → (∀ T ∈ tabs, H T = some (.ext (TabOk T))) → SqL K H a (ns.map V.int) → (∀ b, H b ≠ none → b = a ∨ b ∈ tabs) → (∀ u, H a = some u → ∃ o xs, u = .frz o (.lst xs)) → sp tabs K [.ref a] H (fun v H' => v = .bl true ∧ Same H H') fun _ _ _ => False) :
    PySem.W.WalkO q loose XP YP l.row.toRowW d [] (fun f vs => PySem.call f vs) := by
  refine Att.attach_call hn hdf fun w s₀ s₁ mg mb fa o pm cd doc a vs ns G Y ho hd hcd hmg hobj hints hlen hg => ?_
  have KX := hY w _ Y
  obtain ⟨fd, tabs, hb, ht, hF⟩ := F w mg fa _ KX G.T.g hmg
  refine law_callT KX G.T.g G.T.b G.T.builtins G.T.nolimit hg hobj hints (Nat.le_trans hlen hn2) hr G.T.bmain (fun T hT => ?_) hF hb (fun H hT hS hA hK => hsp tabs _ H a ns hlen hT hS hA hK)
  obtain ⟨x, hx, st, D⟩ := ht T hT
  exact tab_at G.T KX (hnm x hx) D
def isStrV (s : Str) : Value → Bool
  | .str y _ => y == s
  | _ => false
def isIntV (i : Int) : Value → Bool
  | .int j _ => j == i
  | _ => false
theorem const_str {K : PySem.W.Frag} {h : Heap} {mg : Str → Option Value} {x s : Str} {u : Value} (X : K.In h) (G : h.Ns mainGlobals mg) (e : PySem.W.nsIn K mainGlobals x = some (some u)) (hu : isStrV s u = true) : ∃ t, mg x = some (.str s t) := by
  cases u with
  | str y t =>
    have : y = s := by simpa [isStrV] using hu
    subst this
    exact ⟨t, PySem.W.mg_of X G e⟩
  | _ => cases hu
theorem const_int {K : PySem.W.Frag} {h : Heap} {mg : Str → Option Value} {x : Str} {i : Int} {u : Value} (X : K.In h) (G : h.Ns mainGlobals mg) (e : PySem.W.nsIn K mainGlobals x = some (some u)) (hu : isIntV i u = true) : ∃ t, mg x = some (.int i t) := by
  cases u with
  | int y t =>
    have : y = i := by simpa [isIntV] using hu
    subst this
    exact ⟨t, PySem.W.mg_of X G e⟩
  | _ => cases hu
end Ov
set_option Elab.async false
set_option linter.all false
set_option maxRecDepth 100000
namespace Ov
open PySem PySem.Spec PyProof.Rows L2
section
variable {X : Cx} {tg : Expr}
end
end Ov
set_option Elab.async false
set_option linter.all false
set_option maxRecDepth 100000
namespace Ov
open PySem PySem.Spec PyProof.Rows
open L2 (V HO Hp Inv Cx VK XK TE TT TA TS TG TGs TI TO TSet Ends Vis Loc Gl Rd RelV Vals OpR UnR CallR IxR SlR MtR PSet R2 upd upd_same upd_ne SqL SqT Sp CXT It Same)
inductive PV where
  | non | bl (b : Bool) | int (i : Int) | str (x : Str) | ref (a : Addr) | ty (n : String) | tup (xs : List PV) | fl (xs : List PV)
inductive HQ where
  | lst (xs : List PV) | ins (C : Addr) (fs : List (Str × PV)) | dct (kvs : List (Str × PV)) (ep : Nat) | tab | dtp (hs : List Str → Int) (ks : List (List Str))
def DtOk (hs : List Str → Int) (a : Addr) (xs : List (List Str × Addr × Value)) (h : Heap) : Prop := (a == sysModules) = false ∧ xs.length ≤ sizeLine ∧ (xs.map (·.1)).Nodup ∧ ∃ o es ep, h.get? a = some o ∧ o.ExactDict ∧ o.data = .dict es ep ∧ es.toList = xs.map fun x => (⟨hs x.1, .ref x.2.1, x.2.2⟩ : DictEntry)
abbrev Hq := Addr → Option HQ
def put (J : Hq) (a : Addr) (o : HQ) : Hq := fun b => if b = a then some o else J b
theorem put_same {J : Hq} {a : Addr} {o : HQ} : put J a o a = some o := by unfold put; rw [if_pos rfl]
theorem put_ne {J : Hq} {a b : Addr} {o : HQ} (h : b ≠ a) : put J a o b = J b := by unfold put; rw [if_neg h]
theorem put_put {J : Hq} {a : Addr} {o u : HQ} : put (put J a o) a u = put J a u := by
  funext b; unfold put; split <;> rfl
def FlAt (K : PySem.W.Frag) (J : Hq) (H : Hp) (a : Addr) (vs : List V) : Prop := (J a = none ∧ Rd H a (.lst vs)) ∨ ∃ (o : Obj) (its : Array Value) (n : Nat), K.lookup a = some o ∧ o.cls = .type "list" ∧ o.dict = none ∧ o.data = .seq its n ∧ its.size ≤ sizeLine ∧ Vals vs its.toList
theorem FlAt.sq {K : PySem.W.Frag} {J : Hq} {H : Hp} {a : Addr} {vs : List V} (h : FlAt K J H a vs) : SqL K H a vs := by
  rcases h with h | h
  · exact .inl h.2
  · exact .inr h
section
variable (K : PySem.W.Frag)
mutual
def RepV (J : Hq) (H : Hp) : PV → V → Prop
  | .non, v => v = .non
  | .bl b, v => v = .bl b
  | .int i, v => v = .int i
  | .str x, v => v = .str x
  | .ref a, v => v = .ref a
  | .ty n, v => v = .ty n
  | .tup xs, v => ∃ a vs, v = .ref a ∧ SqT K H a vs ∧ RepVs J H xs vs
  | .fl xs, v => ∃ a vs, v = .ref a ∧ FlAt K J H a vs ∧ RepVs J H xs vs
def RepVs (J : Hq) (H : Hp) : List PV → List V → Prop
  | [], vs => vs = []
  | x :: xs, vs => ∃ v us, vs = v :: us ∧ RepV J H x v ∧ RepVs J H xs us
end
def RepF {κ : Type} (J : Hq) (H : Hp) (fs : List (κ × PV)) (gs : List (κ × V)) : Prop := fs.map (·.1) = gs.map (·.1) ∧ RepVs K J H (fs.map (·.2)) (gs.map (·.2))
def RepO (J : Hq) (H : Hp) (a : Addr) : HQ → Prop
  | .lst xs => ∃ vs, H a = some (.lst vs) ∧ RepVs K J H xs vs
  | .ins C fs => ∃ dx gs, H a = some (.ins C dx gs) ∧ RepF K J H fs gs
  | .dct kvs ep => ∃ gs, H a = some (.dE gs ep) ∧ RepF K J H kvs gs
  | .tab => H a = some (.ext (TabOk a))
  | .dtp hs ks => ∃ xs : List (List Str × Addr × Value), xs.map (·.1) = ks ∧ H a = some (.ext (DtOk hs a xs)) ∧ ∀ x ∈ xs, SqT K H x.2.1 (x.1.map V.str)
def Rep (J : Hq) (H : Hp) : Prop := ∀ a o, J a = some o → RepO K J H a o
structure Ext (J : Hq) (H : Hp) (J' : Hq) (H' : Hp) : Prop where
  tup : ∀ a vs, SqT K H a vs → SqT K H' a vs
  ll : ∀ a o, J a = none → H a = some o → ((∃ vs, o = .lst vs) ∨ ∃ ob vs, o = .frz ob (.lst vs)) → J' a = none ∧ H' a = some o
end
section
variable {K : PySem.W.Frag} {J J' J'' : Hq} {H H' H'' : Hp}
theorem Ext.fl (e : Ext K J H J' H') (a : Addr) (vs : List V) (n : J a = none) (h : Rd H a (.lst vs)) : J' a = none ∧ Rd H' a (.lst vs) := by
  rcases h with h | ⟨o, h⟩
  · obtain ⟨a, b⟩ := e.ll a _ n h (.inl ⟨_, rfl⟩); exact ⟨a, .inl b⟩
  · obtain ⟨a, b⟩ := e.ll a _ n h (.inr ⟨_, _, rfl⟩); exact ⟨a, .inr ⟨o, b⟩⟩
theorem Ext.flat (e : Ext K J H J' H') {a : Addr} {vs : List V} (h : FlAt K J H a vs) : FlAt K J' H' a vs := by
  rcases h with h | h
  · exact .inl (e.fl a vs h.1 h.2)
  · exact .inr h
mutual
theorem Ext.rep (e : Ext K J H J' H') : ∀ {x : PV} {v : V}, RepV K J H x v → RepV K J' H' x v
  | .non, _, h => h
  | .bl _, _, h => h
  | .int _, _, h => h
  | .str _, _, h => h
  | .ref _, _, h => h
  | .ty _, _, h => h
  | .tup xs, _, ⟨a, vs, e1, h, k⟩ => ⟨a, vs, e1, e.tup _ _ h, Ext.reps e k⟩
  | .fl xs, _, ⟨a, vs, e1, h, k⟩ => ⟨a, vs, e1, e.flat h, Ext.reps e k⟩
theorem Ext.reps (e : Ext K J H J' H') : ∀ {xs : List PV} {vs : List V}, RepVs K J H xs vs → RepVs K J' H' xs vs
  | [], _, h => h
  | _ :: _, _, ⟨v, us, e1, h, k⟩ => ⟨v, us, e1, Ext.rep e h, Ext.reps e k⟩
end
theorem Ext.refl : Ext K J H J H := ⟨fun _ _ h => h, fun _ _ n h _ => ⟨n, h⟩⟩
theorem Ext.trans (a : Ext K J H J' H') (b : Ext K J' H' J'' H'') : Ext K J H J'' H'' :=
  ⟨fun c vs h => b.tup c vs (a.tup c vs h), fun c o n h z => b.ll c o (a.ll c o n h z).1 (a.ll c o n h z).2 z⟩
theorem Ext.repF {κ : Type} (e : Ext K J H J' H') {fs : List (κ × PV)} {gs : List (κ × V)} (h : RepF K J H fs gs) : RepF K J' H' fs gs := ⟨h.1, e.reps h.2⟩
theorem Rd.same {a : Addr} {u : HO} (s : Same H H') (h : Rd H a u) : Rd H' a u := by
  rcases h with h | ⟨o, h⟩
  · exact .inl (s _ _ h)
  · exact .inr ⟨o, s _ _ h⟩
theorem Ext.same (s : Same H H') : Ext K J H J H' := ⟨fun a vs h => s.tup h, fun a o n h _ => ⟨n, s _ _ h⟩⟩
theorem RepO.same (s : Same H H') {a : Addr} {o : HQ} (h : RepO K J H a o) : RepO K J H' a o := by
  have e := Ext.same (K := K) (J := J) s
  cases o with
  | lst xs => obtain ⟨vs, h1, h2⟩ := h; exact ⟨vs, s _ _ h1, e.reps h2⟩
  | ins C fs => obtain ⟨dx, gs, h1, h2⟩ := h; exact ⟨dx, gs, s _ _ h1, e.repF h2⟩
  | dct kvs ep => obtain ⟨gs, h1, h2⟩ := h; exact ⟨gs, s _ _ h1, e.repF h2⟩
  | tab => exact s _ _ (show H a = some (.ext (TabOk a)) from h)
  | dtp hs ks => obtain ⟨xs, h0, h1, h2⟩ := h; exact ⟨xs, h0, s _ _ h1, fun x hx => s.tup (h2 x hx)⟩
theorem Rep.same (s : Same H H') (h : Rep K J H) : Rep K J H' := fun a o q => (h a o q).same s
theorem Ext.less (h : ∀ a, J' a = J a ∨ J' a = none) : Ext K J H J' H := ⟨fun _ _ h => h, fun a o n z _ => ⟨(h a).elim (fun e => e.trans n) (fun e => e), z⟩⟩
theorem Rep.less (h : ∀ a, J' a = J a ∨ J' a = none) (r : Rep K J H) : Rep K J' H := fun a o q => by
  have e : J a = some o := by
    rcases h a with e | e
    · rw [← e]; exact q
    · rw [e] at q; cases q
  have x := Ext.less (K := K) (H := H) h
  have z := r a o e
  cases o with
  | lst xs => obtain ⟨vs, h1, h2⟩ := z; exact ⟨vs, h1, x.reps h2⟩
  | ins C fs => obtain ⟨dx, gs, h1, h2⟩ := z; exact ⟨dx, gs, h1, x.repF h2⟩
  | dct kvs ep => obtain ⟨gs, h1, h2⟩ := z; exact ⟨gs, h1, x.repF h2⟩
  | tab => exact z
  | dtp hs ks => exact z
theorem RepVs.length : ∀ {xs : List PV} {vs : List V}, RepVs K J H xs vs → xs.length = vs.length
  | [], _, h => by cases h; rfl
  | _ :: xs, _, ⟨v, us, e1, _, k⟩ => by subst e1; simp [RepVs.length k]
theorem RepVs.get : ∀ {xs : List PV} {vs : List V} {i : Nat} {x : PV}, RepVs K J H xs vs → xs[i]? = some x → ∃ v, vs[i]? = some v ∧ RepV K J H x v
  | [], _, i, x, h, e => by simp at e
  | y :: xs, _, 0, x, ⟨v, us, e1, h, k⟩, e => by subst e1; simp at e; subst e; exact ⟨v, rfl, h⟩
  | y :: xs, _, i + 1, x, ⟨v, us, e1, h, k⟩, e => by
    subst e1
    obtain ⟨w, h1, h2⟩ := RepVs.get (i := i) (x := x) k (by simpa using e)
    exact ⟨w, by simpa using h1, h2⟩
theorem RepVs.get' : ∀ {xs : List PV} {vs : List V} {i : Nat} {v : V}, RepVs K J H xs vs → vs[i]? = some v → ∃ x, xs[i]? = some x ∧ RepV K J H x v
  | [], _, i, x, h, e => by cases h; simp at e
  | y :: xs, _, 0, x, ⟨v, us, e1, h, k⟩, e => by subst e1; simp at e; subst e; exact ⟨y, rfl, h⟩
  | y :: xs, _, i + 1, x, ⟨v, us, e1, h, k⟩, e => by
    subst e1
    obtain ⟨w, h1, h2⟩ := RepVs.get' (i := i) (v := x) k (by simpa using e)
    exact ⟨w, by simpa using h1, h2⟩
theorem RepVs.append : ∀ {xs ys : List PV} {vs us : List V}, RepVs K J H xs vs → RepVs K J H ys us → RepVs K J H (xs ++ ys) (vs ++ us)
  | [], _, _, _, h, k => by cases h; exact k
  | x :: xs, ys, _, us, ⟨v, ws, e1, h, h'⟩, k => by subst e1; exact ⟨v, ws ++ us, rfl, h, RepVs.append h' k⟩
theorem RepVs.drop : ∀ (n : Nat) {xs : List PV} {vs : List V}, RepVs K J H xs vs → RepVs K J H (xs.drop n) (vs.drop n)
  | 0, _, _, h => h
  | n + 1, [], _, h => by cases h; rfl
  | n + 1, x :: xs, _, ⟨v, ws, e1, h, h'⟩ => by subst e1; exact RepVs.drop n h'
theorem RepVs.take : ∀ (n : Nat) {xs : List PV} {vs : List V}, RepVs K J H xs vs → RepVs K J H (xs.take n) (vs.take n)
  | 0, _, _, h => rfl
  | n + 1, [], _, h => by cases h; rfl
  | n + 1, x :: xs, _, ⟨v, ws, e1, h, h'⟩ => by subst e1; exact ⟨v, _, rfl, h, RepVs.take n h'⟩
theorem RepVs.set {x : PV} {v : V} (r : RepV K J H x v) : ∀ (n : Nat) {xs : List PV} {vs : List V}, RepVs K J H xs vs → RepVs K J H (xs.set n x) (vs.set n v)
  | n, [], _, h => by cases h; rfl
  | 0, y :: xs, _, ⟨w, ws, e1, h, h'⟩ => by subst e1; exact ⟨v, ws, rfl, r, h'⟩
  | n + 1, y :: xs, _, ⟨w, ws, e1, h, h'⟩ => by subst e1; exact ⟨w, _, rfl, h, RepVs.set r n h'⟩
theorem RepF.look {κ : Type} [BEq κ] [LawfulBEq κ] {f : κ} : ∀ {fs : List (κ × PV)} {gs : List (κ × V)} {x : PV}, RepF K J H fs gs → fs.lookup f = some x → ∃ v, gs.lookup f = some v ∧ RepV K J H x v
  | [], _, _, _, e => by cases e
  | (k, y) :: fs, [], x, h, e => by cases h.1
  | (k, y) :: fs, (k', w) :: gs, x, h, e => by
    obtain ⟨h1, v, us, h2, h3, h4⟩ := h
    simp only [List.map_cons, List.cons.injEq] at h1 h2
    obtain ⟨rfl, h1⟩ := h1
    obtain ⟨rfl, rfl⟩ := h2
    rw [List.lookup_cons] at e ⊢
    cases hk : f == k with
    | true => rw [hk] at e; cases e; exact ⟨w, rfl, h3⟩
    | false => rw [hk] at e; exact RepF.look ⟨h1, h4⟩ e
theorem RepF.none {κ : Type} [BEq κ] [LawfulBEq κ] {f : κ} : ∀ {fs : List (κ × PV)} {gs : List (κ × V)}, RepF K J H fs gs → fs.lookup f = none → gs.lookup f = none
  | [], [], _, _ => rfl
  | [], _ :: _, h, e => by cases h.1
  | (k, y) :: fs, [], h, e => by cases h.1
  | (k, y) :: fs, (k', w) :: gs, h, e => by
    obtain ⟨h1, v, us, h2, h3, h4⟩ := h
    simp only [List.map_cons, List.cons.injEq] at h1 h2
    obtain ⟨rfl, h1⟩ := h1
    obtain ⟨rfl, rfl⟩ := h2
    rw [List.lookup_cons] at e ⊢
    cases hk : f == k with
    | true => rw [hk] at e; cases e
    | false => rw [hk] at e; exact RepF.none ⟨h1, h4⟩ e
end
section
variable {K : PySem.W.Frag} {J J' : Hq} {H H' : Hp} {p : Addr}
theorem ne_free {a p : Addr} {o : HQ} (r : Rep K J H) (h : J a = some o) (n : H p = none) : a ≠ p := by
  intro e; subst e
  have := r _ _ h
  cases o with
  | lst xs => obtain ⟨vs, h1, _⟩ := this; rw [n] at h1; cases h1
  | ins C fs => obtain ⟨dx, gs, h1, _⟩ := this; rw [n] at h1; cases h1
  | dct kvs ep => obtain ⟨gs, h1, _⟩ := this; rw [n] at h1; cases h1
  | tab => have h1 : H a = some (.ext (TabOk a)) := this; rw [n] at h1; cases h1
  | dtp hs ks => obtain ⟨xs, _, h1, _⟩ := this; rw [n] at h1; cases h1
theorem Rep.free (r : Rep K J H) (n : H p = none) : J p = none := by
  cases e : J p with
  | none => rfl
  | some o => exact absurd rfl (ne_free r e n)
theorem Ext.laid {o : HO} {u : HQ} (n : H p = none) : Ext K J H (put J p u) (upd H p o) := by
  refine ⟨fun a vs h => (Same.new n o).tup h, fun a o' z h _ => ⟨?_, Same.new n o _ _ h⟩⟩
  have ne : a ≠ p := by intro e; subst e; rw [n] at h; cases h
  rw [put_ne ne]; exact z
theorem Rep.upto {J' : Hq} {H' : Hp} (e : Ext K J H J' H') (r : Rep K J H) (p : Addr) (q : ∀ a, a ≠ p → J' a = J a) (s : ∀ a o, a ≠ p → J a ≠ none → H a = some o → H' a = some o) (h : ∀ u, J' p = some u → RepO K J' H' p u) : Rep K J' H' := fun a o z => by
  by_cases ep : a = p
  · subst ep; exact h o z
  · rw [q a ep] at z
    have t := r a o z
    have jn : J a ≠ none := by rw [z]; exact fun y => nomatch y
    cases o with
    | lst xs => obtain ⟨vs, h1, h2⟩ := t; exact ⟨vs, s _ _ ep jn h1, e.reps h2⟩
    | ins C fs => obtain ⟨dx, gs, h1, h2⟩ := t; exact ⟨dx, gs, s _ _ ep jn h1, e.repF h2⟩
    | dct kvs eq => obtain ⟨gs, h1, h2⟩ := t; exact ⟨gs, s _ _ ep jn h1, e.repF h2⟩
    | tab => exact s _ _ ep jn (show H a = some (.ext (TabOk a)) from t)
    | dtp hs ks => obtain ⟨xs, h0, h1, h2⟩ := t; exact ⟨xs, h0, s _ _ ep jn h1, fun x hx => e.tup _ _ (h2 x hx)⟩
theorem Rep.laidL {xs : List PV} {vs : List V} (r : Rep K J H) (n : H p = none) (h : RepVs K J H xs vs) : Rep K (put J p (.lst xs)) (upd H p (.lst vs)) := by
  have e := Ext.laid (K := K) (J := J) (o := .lst vs) (u := .lst xs) n
  refine r.upto e p (fun a ne => put_ne ne) (fun a o ne _ z => by rw [upd_ne ne]; exact z) fun u z => ?_
  rw [put_same] at z; cases z
  exact ⟨vs, upd_same, e.reps h⟩
theorem Ext.wrote {xs ys : List PV} {ws vs : List V} (h : J p = some (.lst xs)) (k : H p = some (.lst ws)) : Ext K J H (put J p (.lst ys)) (upd H p (.lst vs)) := by
  have sm : ∀ a u, (∀ l, u ≠ HO.lst l) ∨ a ≠ p → Rd H a u → Rd (upd H p (.lst vs)) a u := fun a u d z => by
    have ne : a ≠ p := by
      rcases d with d | d
      · intro e; subst e
        rcases z with z | ⟨o, z⟩
        · rw [k] at z; cases z; exact d _ rfl
        · rw [k] at z; cases z
      · exact d
    rcases z with z | ⟨o, z⟩
    · exact .inl (by rw [upd_ne ne]; exact z)
    · exact .inr ⟨o, by rw [upd_ne ne]; exact z⟩
  refine ⟨fun a vs' z => ?_, fun a o z q _ => ?_⟩
  · rcases z with z | z
    · exact .inl (sm a _ (.inl fun l e => nomatch e) z)
    · exact .inr z
  · have ne : a ≠ p := by intro e; subst e; rw [h] at z; cases z
    exact ⟨by rw [put_ne ne]; exact z, by rw [upd_ne ne]; exact q⟩
theorem Rep.wrote {xs ys : List PV} {ws vs : List V} (r : Rep K J H) (h : J p = some (.lst xs)) (k : H p = some (.lst ws)) (q : RepVs K J H ys vs) : Rep K (put J p (.lst ys)) (upd H p (.lst vs)) := by
  have e := Ext.wrote (K := K) (ys := ys) (vs := vs) h k
  refine r.upto e p (fun a ne => put_ne ne) (fun a o ne _ z => by rw [upd_ne ne]; exact z) fun u z => ?_
  rw [put_same] at z; cases z
  exact ⟨vs, upd_same, e.reps q⟩
end
abbrev Sr := List (Option PV)
abbrev TEr := Sr → Hq → (PV → Hq → Prop) → Prop
abbrev TTr := Sr → Hq → (Bool → Hq → Prop) → Prop
abbrev TAr := Sr → Hq → (List PV → Hq → Prop) → Prop
structure En where
  nx : Sr → Hq → Prop
  rt : PV → Hq → Prop
  bk : Sr → Hq → Prop := fun _ _ => False
  ct : Sr → Hq → Prop := fun _ _ => False
abbrev TSr := En → Sr → Hq → Prop
structure RepS (K : PySem.W.Frag) (J : Hq) (H : Hp) (τ : Sr) (σ : L2.St) : Prop where
  len : τ.length = σ.length
  get : ∀ (i : Nat) (x : PV), τ[i]? = some (some x) → ∃ v, σ[i]? = some (some v) ∧ RepV K J H x v
theorem RepS.ext {K : PySem.W.Frag} {J J' : Hq} {H H' : Hp} {τ : Sr} {σ : L2.St} (r : RepS K J H τ σ) (e : Ext K J H J' H') : RepS K J' H' τ σ :=
  ⟨r.len, fun i x h => let ⟨v, a, b⟩ := r.get i x h; ⟨v, a, e.rep b⟩⟩
theorem RepS.set {K : PySem.W.Frag} {J : Hq} {H : Hp} {τ : Sr} {σ : L2.St} (r : RepS K J H τ σ) {x : PV} {v : V} (i : Nat) (h : RepV K J H x v) : RepS K J H (τ.set i (some x)) (σ.set i (some v)) := by
  refine ⟨by rw [List.length_set, List.length_set, r.len], fun j y e => ?_⟩
  by_cases hj : i = j
  · subst hj
    by_cases hl : i < τ.length
    · rw [List.getElem?_set_self hl] at e
      cases e
      exact ⟨v, List.getElem?_set_self (by rw [← r.len]; exact hl), h⟩
    · rw [List.getElem?_eq_none (by rw [List.length_set]; omega)] at e
      cases e
  · rw [List.getElem?_set_ne hj] at e ⊢
    exact r.get j y e
abbrev G2 := Hq × Hp
structure At2 (K : PySem.W.Frag) (G : G2) (τ : Sr) (J : Hq) (σ : L2.St) (H : Hp) : Prop where
  sl : RepS K J H τ σ
  hp : Rep K J H
  ext : Ext K G.1 G.2 J H
section
variable (K : PySem.W.Frag) (G : G2)
def LE (t : TEr) : TE := fun σ H Q => ∃ τ J Q2, At2 K G τ J σ H ∧ t τ J Q2 ∧ ∀ x J' v H', RepV K J' H' x v → Rep K J' H' → Ext K J H J' H' → Q2 x J' → Q v H'
def LT (t : TTr) : TT := fun σ H Q => ∃ τ J Q2, At2 K G τ J σ H ∧ t τ J Q2 ∧ ∀ b J' H', Rep K J' H' → Ext K J H J' H' → Q2 b J' → Q b H'
def LA (t : TAr) : TA := fun σ H Q => ∃ τ J Q2, At2 K G τ J σ H ∧ t τ J Q2 ∧ ∀ xs J' vs H', RepVs K J' H' xs vs → Rep K J' H' → Ext K J H J' H' → Q2 xs J' → Q vs H'
structure Goes (J : Hq) (H : Hp) (D2 : En) (D : Ends) : Prop where
  nx : ∀ τ J' σ H', RepS K J' H' τ σ → Rep K J' H' → Ext K J H J' H' → D2.nx τ J' → D.nx σ H'
  rt : ∀ x J' v H', RepV K J' H' x v → Rep K J' H' → Ext K J H J' H' → D2.rt x J' → D.rt v H'
  bk : ∀ τ J' σ H', RepS K J' H' τ σ → Rep K J' H' → Ext K J H J' H' → D2.bk τ J' → D.bk σ H'
  ct : ∀ τ J' σ H', RepS K J' H' τ σ → Rep K J' H' → Ext K J H J' H' → D2.ct τ J' → D.ct σ H'
def LS (t : TSr) : TS := fun D σ H => ∃ τ J D2, At2 K G τ J σ H ∧ t D2 τ J ∧ Goes K J H D2 D
end
theorem Goes.ext {K : PySem.W.Frag} {J J' : Hq} {H H' : Hp} {D2 : En} {D : Ends} (g : Goes K J H D2 D) (e : Ext K J H J' H') : Goes K J' H' D2 D :=
  ⟨fun τ J1 σ H1 a b c => g.nx τ J1 σ H1 a b (e.trans c), fun x J1 v H1 a b c => g.rt x J1 v H1 a b (e.trans c), fun τ J1 σ H1 a b c => g.bk τ J1 σ H1 a b (e.trans c), fun τ J1 σ H1 a b c => g.ct τ J1 σ H1 a b (e.trans c)⟩
theorem At2.go {K : PySem.W.Frag} {G : G2} {τ : Sr} {J J' : Hq} {σ : L2.St} {H H' : Hp} (a : At2 K G τ J σ H) (r : Rep K J' H') (e : Ext K J H J' H') : At2 K G τ J' σ H' := ⟨a.sl.ext e, r, a.ext.trans e⟩
structure RE (X : Cx) (G : G2) (e : Expr) (t : TEr) : Prop where
  run : L2.PE X e (LE X.K G t)
structure RT (X : Cx) (G : G2) (e : Expr) (t : TTr) : Prop where
  run : L2.PT X e (LT X.K G t)
structure RW (X : Cx) (G : G2) (e : Expr) (t : TTr) : Prop where
  run : L2.PW X e (LT X.K G t)
structure RA (X : Cx) (G : G2) (es : List Expr) (t : TAr) : Prop where
  run : L2.PA X es (LA X.K G t)
structure RS (X : Cx) (G : G2) (st : Stmt) (t : TSr) : Prop where
  run : L2.PS X st (LS X.K G t)
structure RB (X : Cx) (G : G2) (st : List Stmt) (t : TSr) : Prop where
  run : L2.PSs X st (LS X.K G t)
theorem peW {X : Cx} {e : Expr} {t t' : TE} (h : L2.PE X e t) (k : ∀ σ H Q, t' σ H Q → t σ H Q) : L2.PE X e t' := fun pins s σ H Q I q => h pins s σ H Q I (k _ _ _ q)
theorem ptW {X : Cx} {e : Expr} {t t' : TT} (h : L2.PT X e t) (k : ∀ σ H Q, t' σ H Q → t σ H Q) : L2.PT X e t' := fun pins s σ H Q I q => h pins s σ H Q I (k _ _ _ q)
theorem pwW {X : Cx} {e : Expr} {t t' : TT} (h : L2.PW X e t) (k : ∀ σ H Q, t' σ H Q → t σ H Q) : L2.PW X e t' := fun wh pins s σ H Q I q => h wh pins s σ H Q I (k _ _ _ q)
theorem paW {X : Cx} {e : List Expr} {t t' : TA} (h : L2.PA X e t) (k : ∀ σ H Q, t' σ H Q → t σ H Q) : L2.PA X e t' := fun pos pins s σ H Q I q => h pos pins s σ H Q I (k _ _ _ q)
theorem psW {X : Cx} {e : Stmt} {t t' : TS} (h : L2.PS X e t) (k : ∀ D σ H, t' D σ H → t D σ H) : L2.PS X e t' := fun pins s σ H D I q => h pins s σ H D I (k _ _ _ q)
theorem pbW {X : Cx} {e : List Stmt} {t t' : TS} (h : L2.PSs X e t) (k : ∀ D σ H, t' D σ H → t D σ H) : L2.PSs X e t' := fun pins s σ H D I q => h pins s σ H D I (k _ _ _ q)
end Ov
set_option Elab.async false
set_option linter.all false
set_option maxRecDepth 100000
namespace Ov
open PySem PySem.Spec PyProof.Rows
open L2 (V HO Hp Inv Cx VK XK TE TT TA TS TG TGs TI TO TSet Ends Vis Loc Gl Rd RelV Vals OpR UnR CallR IxR SlR MtR PSet R2 upd upd_same upd_ne SqL SqT Sp CXT It Same PlainIx Room Passes Cls NoAttr Meth Mk Binds FnOk Fun FnScope atI TyOf)
def Dep {α : Sort _} (_ : α) : Type := Unit
def dp {α : Sort _} {k : α} : Dep k := ()
def onS {α : Type} (o : Option α) (k : α → Prop) (_ : Dep k := dp) : Prop := match o with | some x => k x | none => False
def on2 (o : Option (Option PV)) (k : PV → Prop) (_ : Dep k := dp) : Prop := match o with | some (some x) => k x | _ => False
def onI (x : PV) (k : Int → Prop) (_ : Dep k := dp) : Prop := match x with | .int i => k i | _ => False
def onB (x : PV) (k : Bool → Prop) (_ : Dep k := dp) : Prop := match x with | .bl i => k i | _ => False
def onT (x : PV) (k : Str → Prop) (_ : Dep k := dp) : Prop := match x with | .str i => k i | _ => False
def onR (x : PV) (k : Addr → Prop) (_ : Dep k := dp) : Prop := match x with | .ref a => k a | _ => False
def onU (x : PV) (k : List PV → Prop) (_ : Dep k := dp) : Prop := match x with | .tup a => k a | _ => False
def on1 (xs : List PV) (k : PV → Prop) (_ : Dep k := dp) : Prop := match xs with | [x] => k x | _ => False
def onL (o : Option HQ) (k : List PV → Prop) (_ : Dep k := dp) : Prop := match o with | some (.lst xs) => k xs | _ => False
def onD (o : Option HQ) (k : List (Str × PV) → Nat → Prop) (_ : Dep k := dp) : Prop := match o with | some (.dct xs e) => k xs e | _ => False
def onC (C : Addr) (o : Option HQ) (k : List (Str × PV) → Prop) (_ : Dep k := dp) : Prop := match o with | some (.ins C' fs) => if C' = C then k fs else False | _ => False
def onN (xs : List PV) (k : Prop) (_ : Dep k := dp) : Prop := match xs with | [] => k | _ => False
def onCo (xs : List PV) (k : PV → List PV → Prop) (_ : Dep k := dp) : Prop := match xs with | x :: r => k x r | [] => False
def onP (xs : List PV) (k : PV → PV → Prop) (_ : Dep k := dp) : Prop := match xs with | [x, y] => k x y | _ => False
theorem onN_e {k : Prop} {d : Dep k} : onN [] k d = k := rfl
theorem onCo_e {x : PV} {r : List PV} {k : PV → List PV → Prop} {d : Dep k} : onCo (x :: r) k d = k x r := rfl
theorem onP_e {x y : PV} {k : PV → PV → Prop} {d : Dep k} : onP [x, y] k d = k x y := rfl
theorem onN_ex {xs : List PV} {k : Prop} {d : Dep k} (h : onN xs k d) : xs = [] ∧ k := by cases xs with | nil => exact ⟨rfl, h⟩ | cons x r => exact h.elim
theorem onCo_ex {xs : List PV} {k : PV → List PV → Prop} {d : Dep k} (h : onCo xs k d) : ∃ x r, xs = x :: r ∧ k x r := by cases xs with | nil => exact h.elim | cons x r => exact ⟨_, _, rfl, h⟩
theorem onP_ex {xs : List PV} {k : PV → PV → Prop} {d : Dep k} (h : onP xs k d) : ∃ x y, xs = [x, y] ∧ k x y := by
  unfold onP at h
  split at h
  · exact ⟨_, _, rfl, h⟩
  · exact h.elim
theorem onS_e {α : Type} {x : α} {k : α → Prop} {d : Dep k} : onS (some x) k d = k x := rfl
theorem on2_e {x : PV} {k : PV → Prop} {d : Dep k} : on2 (some (some x)) k d = k x := rfl
theorem onI_e {x : Int} {k : Int → Prop} {d : Dep k} : onI (.int x) k d = k x := rfl
theorem onB_e {x : Bool} {k : Bool → Prop} {d : Dep k} : onB (.bl x) k d = k x := rfl
theorem onT_e {x : Str} {k : Str → Prop} {d : Dep k} : onT (.str x) k d = k x := rfl
theorem onR_e {x : Addr} {k : Addr → Prop} {d : Dep k} : onR (.ref x) k d = k x := rfl
theorem onU_e {x : List PV} {k : List PV → Prop} {d : Dep k} : onU (.tup x) k d = k x := rfl
theorem on1_e {x : PV} {k : PV → Prop} {d : Dep k} : on1 [x] k d = k x := rfl
theorem onL_e {x : List PV} {k : List PV → Prop} {d : Dep k} : onL (some (.lst x)) k d = k x := rfl
theorem onD_e {x : List (Str × PV)} {e : Nat} {k : List (Str × PV) → Nat → Prop} {d : Dep k} : onD (some (.dct x e)) k d = k x e := rfl
theorem onC_e {C : Addr} {x : List (Str × PV)} {k : List (Str × PV) → Prop} {d : Dep k} : onC C (some (.ins C x)) k d = k x := if_pos rfl
theorem onS_ex {α : Type} {o : Option α} {k : α → Prop} {d : Dep k} (h : onS o k d) : ∃ x, o = some x ∧ k x := by cases o with | none => exact h.elim | some x => exact ⟨x, rfl, h⟩
theorem onS_in {α : Type} {o : Option α} {x : α} {k : α → Prop} (e : o = some x) (h : k x) : onS o k := by rw [e]; exact h
theorem on2_ex {o : Option (Option PV)} {k : PV → Prop} {d : Dep k} (h : on2 o k d) : ∃ x, o = some (some x) ∧ k x := by
  unfold on2 at h
  split at h
  · exact ⟨_, rfl, h⟩
  · exact h.elim
theorem onI_ex {x : PV} {k : Int → Prop} {d : Dep k} (h : onI x k d) : ∃ i, x = .int i ∧ k i := by cases x <;> first | exact ⟨_, rfl, h⟩ | exact False.elim h
theorem onB_ex {x : PV} {k : Bool → Prop} {d : Dep k} (h : onB x k d) : ∃ i, x = .bl i ∧ k i := by cases x <;> first | exact ⟨_, rfl, h⟩ | exact False.elim h
theorem onT_ex {x : PV} {k : Str → Prop} {d : Dep k} (h : onT x k d) : ∃ i, x = .str i ∧ k i := by cases x <;> first | exact ⟨_, rfl, h⟩ | exact False.elim h
theorem onU_ex {x : PV} {k : List PV → Prop} {d : Dep k} (h : onU x k d) : ∃ i, x = .tup i ∧ k i := by cases x <;> first | exact ⟨_, rfl, h⟩ | exact False.elim h
theorem on1_ex {xs : List PV} {k : PV → Prop} {d : Dep k} (h : on1 xs k d) : ∃ x, xs = [x] ∧ k x := by
  unfold on1 at h
  split at h
  · exact ⟨_, rfl, h⟩
  · exact h.elim
section
variable {X : Cx} {G : G2} {a b c e o : Expr} {es rest : List Expr} {ta tb te tc to : TEr} {tA tB' : TTr} {t : TAr} {pos px p p2 apos cpos : Pos} {x : Str} {i j : Nat}
def rVar (i : Nat) : TEr := fun τ J Q => on2 τ[i]? fun x => Q x J
theorem rv (i : Nat) {x : Str} {pos : Pos} (hN : X.N[i]? = some x := by rfl) (hv : Vis X.env.scope x := by first | exact Or.inl rfl | exact Or.inr (Or.inl rfl) | exact Or.inr (Or.inr rfl)) (hd : (x == ("__debug__" : Str)) = false := by decide)
    (hcd : (x == ("__classdict__" : Str)) = false := by decide) : RE X G (.Name x pos) (rVar i) :=
  ⟨peW (L2.pe_var hN hv hd hcd) fun σ H Q ⟨τ, J, Q2, a2, hq, k⟩ => let ⟨y, ey, q⟩ := on2_ex hq; let ⟨v, e1, r⟩ := a2.sl.get i y ey; ⟨v, e1, k y J v H r a2.hp .refl q⟩⟩
def rC (x : PV) : TEr := fun _ J Q => Q x J
theorem re_int {i : Int} {j pos} : RE X G (.Constant (.int i) j pos) (rC (.int i)) := ⟨peW L2.pe_int fun σ H Q ⟨τ, J, Q2, a2, q, k⟩ => k (.int i) J _ H rfl a2.hp .refl q⟩
theorem re_bl {b : Bool} {j pos} : RE X G (.Constant (.bool b) j pos) (rC (.bl b)) := ⟨peW L2.pe_bl fun σ H Q ⟨τ, J, Q2, a2, q, k⟩ => k (.bl b) J _ H rfl a2.hp .refl q⟩
theorem re_str {x : Str} {j pos} : RE X G (.Constant (.str x) j pos) (rC (.str x)) := ⟨peW L2.pe_str fun σ H Q ⟨τ, J, Q2, a2, q, k⟩ => k (.str x) J _ H rfl a2.hp .refl q⟩
theorem re_glob {v : V} {u : Value} (y : PV) (hg : Gl X x) (hm : X.mg x = some u) (r : RelV v u) (hr : ∀ J H, RepV X.K J H y v) (hd : (x == ("__debug__" : Str)) = false := by decide) : RE X G (.Name x pos) (rC y) :=
  ⟨peW (L2.pe_glob hg hm r hd) fun σ H Q ⟨τ, J, Q2, a2, q, k⟩ => k y J v H (hr J H) a2.hp .refl q⟩
theorem re_ty {n : String} (hg : Gl X x) (hm : X.mg x = none) (hv : bootBuiltins x = some (.type n)) (hn : x ≠ "__name__" := by decide) (hd : (x == ("__debug__" : Str)) = false := by decide) : RE X G (.Name x pos) (rC (.ty n)) :=
  ⟨peW (L2.pe_bltn (v := .ty n) hg hm hv rfl hn hd) fun σ H Q ⟨τ, J, Q2, a2, q, k⟩ => k (.ty n) J _ H rfl a2.hp .refl q⟩
abbrev R2r := PV → PV → Hq → (PV → Hq → Prop) → Prop
abbrev R1r := PV → Hq → (PV → Hq → Prop) → Prop
abbrev RLr := List PV → Hq → (PV → Hq → Prop) → Prop
def Kn (K : PySem.W.Frag) (J : Hq) (H : Hp) (Q2 : PV → Hq → Prop) (Q : VK) : Prop := ∀ z J' u H', RepV K J' H' z u → Rep K J' H' → Ext K J H J' H' → Q2 z J' → Q u H'
def LR (K : PySem.W.Frag) (r : R2) (q : R2r) : Prop := ∀ J H x y v w Q2 Q, RepV K J H x v → RepV K J H y w → Rep K J H → q x y J Q2 → Kn K J H Q2 Q → r v w H Q
def LRL (K : PySem.W.Frag) (r : List V → Hp → VK → Prop) (q : RLr) : Prop := ∀ J H xs vs Q2 Q, RepVs K J H xs vs → Rep K J H → q xs J Q2 → Kn K J H Q2 Q → r vs H Q
def OpL (X : Cx) (f : Value → Value → Sem Value) (q : R2r) : Prop := ∃ r, OpR X f r ∧ LR X.K r q
def IxL (X : Cx) (q : R2r) : Prop := ∃ r, IxR X r ∧ LR X.K r q
def CaL (X : Cx) (f : Value) (q : RLr) : Prop := ∃ r, CallR X f r ∧ LRL X.K r q
def rOp (q : R2r) (ta tb : TEr) : TEr := fun τ J Q => ta τ J fun x J1 => tb τ J1 fun y J2 => q x y J2 Q
def rUn (q : R1r) (ta : TEr) : TEr := fun τ J Q => ta τ J fun x J1 => q x J1 Q
theorem op_lift {r : R2} {q : R2r} (lr : LR X.K r q) : ∀ σ H Q, LE X.K G (rOp q ta tb) σ H Q → L2.tOp r (LE X.K G ta) (LE X.K G tb) σ H Q := fun σ H Q ⟨τ, J, Q2, a2, h, k⟩ =>
  ⟨τ, J, _, a2, h, fun x J1 v H1 rx r1 e1 q1 => ⟨τ, J1, _, a2.go r1 e1, q1, fun y J2 w H2 ry r2 e2 q2 =>
    lr J2 H2 x y v w Q2 Q (e2.rep rx) ry r2 q2 fun z J' u H' rz rr ee qq => k z J' u H' rz rr ((e1.trans e2).trans ee) qq⟩⟩
theorem re_op {op : Operator} {q : R2r} (ho : OpL X (binaryOp op) q) (ha : RE X G a ta) (hb : RE X G b tb) : RE X G (.BinOp a op b pos) (rOp q ta tb) := by
  obtain ⟨r, h, lr⟩ := ho
  exact ⟨peW (L2.pe_op h ha.run hb.run) (op_lift lr)⟩
theorem re_ix {q : R2r} (hr : IxL X q) (ha : RE X G a ta) (hb : RE X G b tb) (hs : PlainIx b := by exact fun _ _ => rfl) : RE X G (.Subscript a b pos) (rOp q ta tb) := by
  obtain ⟨r, h, lr⟩ := hr
  exact ⟨peW (L2.pe_ix h ha.run hb.run hs) (op_lift lr)⟩
theorem re_cmp {op : CmpOp} {q : R2r} (ho : OpL X (compareOp op) q) (ha : RE X G a ta) (hb : RE X G b tb) (hm : behindInMarks op b = false := by first | exact L2.nomark _ | with_unfolding_all rfl) : RE X G (.Compare a [op] [b] pos) (rOp q ta tb) := by
  obtain ⟨r, h, lr⟩ := ho
  exact ⟨peW (L2.pe_cmpR h ha.run hb.run hm) (op_lift lr)⟩
def rB (t : TEr) : TTr := fun τ J Q => t τ J fun x J1 => onB x fun k => Q k J1
theorem rt_cmp {op : CmpOp} {q : R2r} (ho : OpL X (compareOp op) q) (ha : RE X G a ta) (hb : RE X G b tb) (hm : behindInMarks op b = false := by first | exact L2.nomark _ | with_unfolding_all rfl) : RT X G (.Compare a [op] [b] pos) (rB (rOp q ta tb)) := by
  obtain ⟨r, h, lr⟩ := ho
  refine ⟨ptW (L2.pt_cmpR h ha.run hb.run hm) fun σ H Q ⟨τ, J, Q2, a2, h, k⟩ => ?_⟩
  refine op_lift lr σ H _ ⟨τ, J, _, a2, h, fun z J' u H' rz rr ee qq => ?_⟩
  obtain ⟨b, rfl, q⟩ := onB_ex qq
  exact ⟨b, rz, k b J' H' rr ee q⟩
theorem rt_val (h : RE X G e te) (he : ∀ whole, isTrue e X.env whole = (do let v ← whole; standAt e.pos; holding [v] (truthy v)) := by intro _; rfl) : RT X G e (rB te) :=
  ⟨ptW (L2.pt_val h.run he) fun σ H Q ⟨τ, J, Q2, a2, h, k⟩ => ⟨τ, J, _, a2, h, fun z J' u H' rz rr ee qq => by obtain ⟨b, eb, q⟩ := onB_ex qq; subst eb; exact ⟨b, rz, k b J' H' rr ee q⟩⟩⟩
def truQ (J : Hq) : PV → Option Bool
  | .non => some false
  | .bl b => some b
  | .int i => some (i != 0)
  | .tup xs => some (!xs.isEmpty)
  | .fl xs => some (!xs.isEmpty)
  | .ref a => match J a with
    | some (.lst xs) => some (!xs.isEmpty)
    | some (.dct kvs _) => some (!kvs.isEmpty)
    | _ => none
  | _ => none
def rTru (te : TEr) : TTr := fun τ J Q => te τ J fun x J1 => onS (truQ J1 x) fun k => Q k J1
def rAnd (t u : TTr) : TTr := fun τ J Q => t τ J fun c J1 => if c = true then u τ J1 Q else Q false J1
def rOr (t u : TTr) : TTr := fun τ J Q => t τ J fun c J1 => if c = true then Q true J1 else u τ J1 Q
def rNot (t : TTr) : TTr := fun τ J Q => t τ J fun c J1 => Q (!c) J1
theorem rt_not (ha : RT X G a tA) : RT X G (.UnaryOp .Not a pos) (rNot tA) := ⟨ptW (L2.pt_not ha.run) fun σ H Q ⟨τ, J, Q2, a2, h, k⟩ => ⟨τ, J, _, a2, h, fun b J' H' rr ee q => k _ J' H' rr ee q⟩⟩
theorem rw_and1 (ha : RT X G a tA) : RW X G (.BoolOp .And [a] pos) tA := ⟨L2.pw_and1 ha.run⟩
theorem rw_or1 (ha : RT X G a tA) : RW X G (.BoolOp .Or [a] pos) tA := ⟨L2.pw_or1 ha.run⟩
theorem and_lift {σ : L2.St} {H : Hp} {Q : Bool → Hp → Prop} : LT X.K G (rAnd tA tB') σ H Q → L2.tAnd (LT X.K G tA) (LT X.K G tB') σ H Q := fun ⟨τ, J, Q2, a2, h, k⟩ =>
  ⟨τ, J, _, a2, h, fun b J' H' rr ee q => by
    cases b with
    | true => simp only [if_true] at q ⊢; exact ⟨τ, J', Q2, a2.go rr ee, q, fun b J2 H2 r2 e2 q2 => k b J2 H2 r2 (ee.trans e2) q2⟩
    | false => simp only [Bool.false_eq_true, if_false] at q ⊢; exact k _ J' H' rr ee q⟩
theorem or_lift {σ : L2.St} {H : Hp} {Q : Bool → Hp → Prop} : LT X.K G (rOr tA tB') σ H Q → L2.tOr (LT X.K G tA) (LT X.K G tB') σ H Q := fun ⟨τ, J, Q2, a2, h, k⟩ =>
  ⟨τ, J, _, a2, h, fun b J' H' rr ee q => by
    cases b with
    | false => simp only [Bool.false_eq_true, if_false] at q ⊢; exact ⟨τ, J', Q2, a2.go rr ee, q, fun b J2 H2 r2 e2 q2 => k b J2 H2 r2 (ee.trans e2) q2⟩
    | true => simp only [if_true] at q ⊢; exact k _ J' H' rr ee q⟩
theorem rw_and (ha : RT X G a tA) (hb : RW X G (.BoolOp .And (b :: rest) pos) tB') : RW X G (.BoolOp .And (a :: b :: rest) pos) (rAnd tA tB') := ⟨pwW (L2.pw_and ha.run hb.run) fun σ H Q h => and_lift h⟩
theorem rw_or (ha : RT X G a tA) (hb : RW X G (.BoolOp .Or (b :: rest) pos) tB') : RW X G (.BoolOp .Or (a :: b :: rest) pos) (rOr tA tB') := ⟨pwW (L2.pw_or ha.run hb.run) fun σ H Q h => or_lift h⟩
theorem rw_rt (h : RW X G e tA) : RT X G e tA := ⟨h.run.pt⟩
def rAndV (ta tb : TEr) : TEr := fun τ J Q => ta τ J fun x J1 => onB x fun c => if c = true then tb τ J1 Q else Q (.bl false) J1
def rOrV (ta tb : TEr) : TEr := fun τ J Q => ta τ J fun x J1 => onB x fun c => if c = true then Q (.bl true) J1 else tb τ J1 Q
def rNotV (ta : TEr) : TEr := fun τ J Q => ta τ J fun x J1 => onB x fun c => Q (.bl (!c)) J1
theorem re_one {op} (h : RE X G a ta) : RE X G (.BoolOp op [a] pos) ta := ⟨L2.pe_one h.run⟩
theorem re_and (ha : RE X G a ta) (hb : RE X G (.BoolOp .And (b :: rest) pos) tb) : RE X G (.BoolOp .And (a :: b :: rest) pos) (rAndV ta tb) := ⟨peW (L2.pe_and ha.run hb.run) fun σ H Q ⟨τ, J, Q2, a2, h, k⟩ =>
  ⟨τ, J, _, a2, h, fun x J' v H' rx rr ee qq => by
    obtain ⟨c, ec, q⟩ := onB_ex qq
    subst ec
    refine ⟨c, rx, ?_⟩
    cases c with
    | true => simp only [if_true] at q ⊢; exact ⟨τ, J', Q2, a2.go rr ee, q, fun z J2 u H2 rz r2 e2 q2 => k z J2 u H2 rz r2 (ee.trans e2) q2⟩
    | false => simp only [Bool.false_eq_true, if_false] at q ⊢; exact k (.bl false) J' _ H' rfl rr ee q⟩⟩
theorem re_not (ha : RE X G a ta) : RE X G (.UnaryOp .Not a pos) (rNotV ta) := ⟨peW (L2.pe_not ha.run) fun σ H Q ⟨τ, J, Q2, a2, h, k⟩ =>
  ⟨τ, J, _, a2, h, fun x J' v H' rx rr ee qq => by obtain ⟨c, ec, q⟩ := onB_ex qq; subst ec; exact ⟨c, rx, k (.bl (!c)) J' _ H' rfl rr ee q⟩⟩⟩
def rIf (t : TTr) (ta tb : TEr) : TEr := fun τ J Q => t τ J fun c J1 => if c = true then ta τ J1 Q else tb τ J1 Q
theorem re_if (hc : RT X G c tA) (ha : RE X G a ta) (hb : RE X G b tb) : RE X G (.IfExp c a b pos) (rIf tA ta tb) := ⟨peW (L2.pe_ifExp hc.run ha.run hb.run) fun σ H Q ⟨τ, J, Q2, a2, h, k⟩ =>
  ⟨τ, J, _, a2, h, fun c J' H' rr ee q => by
    cases c with
    | true => simp only [if_true] at q ⊢; exact ⟨τ, J', Q2, a2.go rr ee, q, fun z J2 u H2 rz r2 e2 q2 => k z J2 u H2 rz r2 (ee.trans e2) q2⟩
    | false => simp only [Bool.false_eq_true, if_false] at q ⊢; exact ⟨τ, J', Q2, a2.go rr ee, q, fun z J2 u H2 rz r2 e2 q2 => k z J2 u H2 rz r2 (ee.trans e2) q2⟩⟩⟩
def rNil : TAr := fun _ J Q => Q [] J
def rCons (ta : TEr) (tr : TAr) : TAr := fun τ J Q => ta τ J fun x J1 => tr τ J1 fun xs J2 => Q (x :: xs) J2
theorem ra_nil : RA X G [] rNil := ⟨paW L2.pa_nil fun σ H Q ⟨τ, J, Q2, a2, h, k⟩ => k [] J [] H rfl a2.hp .refl h⟩
theorem ra_cons (ha : RE X G e te) (hr : RA X G es t) (hs : starEach (e :: es) X.env = (false, eval e X.env) :: starEach es X.env := by rfl) : RA X G (e :: es) (rCons te t) :=
  ⟨paW (L2.pa_cons ha.run hr.run hs) fun σ H Q ⟨τ, J, Q2, a2, h, k⟩ => ⟨τ, J, _, a2, h, fun x J' v H' rx rr ee q => ⟨τ, J', _, a2.go rr ee, q, fun xs J2 vs H2 rs r2 e2 q2 => k (x :: xs) J2 (v :: vs) H2 ⟨v, vs, rfl, e2.rep rx, rs⟩ r2 (ee.trans e2) q2⟩⟩⟩
def rTup (t : TAr) : TEr := fun τ J Q => t τ J fun xs J1 => xs.length ≤ sizeLine ∧ Q (.tup xs) J1
theorem re_tup {x1} (h : RA X G es t) : RE X G (.Tuple es x1 pos) (rTup t) := ⟨peW (L2.pe_tup h.run) fun σ H Q ⟨τ, J, Q2, a2, h, k⟩ => ⟨τ, J, _, a2, h, fun xs J' vs H' rs rr ee ⟨hl, q⟩ =>
  ⟨by rw [← rs.length]; exact hl, fun p hp => by
    have sm := Same.new hp (.tup vs)
    have e2 := Ext.same (K := X.K) (J := J') sm
    exact k (.tup xs) J' (.ref p) _ ⟨p, vs, rfl, .inl (.inl upd_same), e2.reps rs⟩ (rr.same sm) (ee.trans e2) q⟩⟩⟩
def rLst (t : TAr) : TEr := fun τ J Q => t τ J fun xs J1 => xs.length ≤ sizeLine ∧ ∀ p, J1 p = none → Q (.ref p) (put J1 p (.lst xs))
def rFl (t : TAr) : TEr := fun τ J Q => t τ J fun xs J1 => xs.length ≤ sizeLine ∧ Q (.fl xs) J1
theorem new_fl {K : PySem.W.Frag} {J : Hq} {H : Hp} {xs : List PV} {vs : List V} {p : Addr} (rr : Rep K J H) (rs : RepVs K J H xs vs) (hp : H p = none) : RepV K J (upd H p (.lst vs)) (.fl xs) (.ref p) ∧ Rep K J (upd H p (.lst vs)) ∧ Ext K J H J (upd H p (.lst vs)) := by
  have sm := Same.new hp (.lst vs)
  have e2 := Ext.same (K := K) (J := J) sm
  exact ⟨⟨p, vs, rfl, .inl ⟨rr.free hp, .inl upd_same⟩, e2.reps rs⟩, rr.same sm, e2⟩
theorem re_fl (h : RA X G es t) : RE X G (.List es pos) (rFl t) := ⟨peW (L2.pe_lst h.run) fun σ H Q ⟨τ, J, Q2, a2, h, k⟩ => ⟨τ, J, _, a2, h, fun xs J' vs H' rs rr ee ⟨hl, q⟩ =>
  ⟨by rw [← rs.length]; exact hl, fun p hp => let ⟨x1, x2, x3⟩ := new_fl rr rs hp; k (.fl xs) _ (.ref p) _ x1 x2 (ee.trans x3) q⟩⟩⟩
abbrev TOr := Sr → Hq → (Option Int → Hq → Prop) → Prop
def LO (K : PySem.W.Frag) (G : G2) (t : TOr) : TO := fun σ H Q => ∃ τ J Q2, At2 K G τ J σ H ∧ t τ J Q2 ∧ ∀ b J' H', Rep K J' H' → Ext K J H J' H' → Q2 b J' → Q b H'
structure RO (X : Cx) (G : G2) (e : Option Expr) (t : TOr) : Prop where
  run : L2.PO X e (LO X.K G t)
theorem poW {X : Cx} {e : Option Expr} {t t' : TO} (h : L2.PO X e t) (k : ∀ σ H Q, t' σ H Q → t σ H Q) : L2.PO X e t' := fun pins s σ H Q I q => h pins s σ H Q I (k _ _ _ q)
def rNoPart : TOr := fun _ J Q => Q none J
def rPart (t : TEr) : TOr := fun τ J Q => t τ J fun x J1 => onI x fun i => Q (some i) J1
theorem ro_none : RO X G none rNoPart := ⟨poW L2.po_none fun σ H Q ⟨τ, J, Q2, a2, h, k⟩ => k none J H a2.hp .refl h⟩
theorem ro_some (h : RE X G e te) : RO X G (some e) (rPart te) := ⟨poW (L2.po_some h.run) fun σ H Q ⟨τ, J, Q2, a2, h, k⟩ => ⟨τ, J, _, a2, h, fun x J' v H' rx rr ee qq => by obtain ⟨i, ei, q⟩ := onI_ex qq; subst ei; exact ⟨i, rx, k _ J' H' rr ee q⟩⟩⟩
abbrev RSlr := PV → Option Int → Option Int → Hq → (PV → Hq → Prop) → Prop
def SlL (X : Cx) (q : RSlr) : Prop := ∃ r, SlR X r ∧ ∀ J H x lo hi v Q2 Q, RepV X.K J H x v → Rep X.K J H → q x lo hi J Q2 → Kn X.K J H Q2 Q → r v lo hi H Q
def rSl (q : RSlr) (te : TEr) (tl th : TOr) : TEr := fun τ J Q => te τ J fun x J1 => tl τ J1 fun l J2 => th τ J2 fun u J3 => q x l u J3 Q
theorem re_slice {lo hi : Option Expr} {tl th : TOr} {q : RSlr} (hr : SlL X q) (he : RE X G e te) (hl : RO X G lo tl) (hu : RO X G hi th) : RE X G (.Subscript e (.Slice lo hi none p2) pos) (rSl q te tl th) := by
  obtain ⟨r, h, lr⟩ := hr
  exact ⟨peW (L2.pe_slice h he.run hl.run hu.run) fun σ H Q ⟨τ, J, Q2, a2, h, k⟩ => ⟨τ, J, _, a2, h, fun x J' v H' rx rr ee q1 => ⟨τ, J', _, a2.go rr ee, q1, fun l J2 H2 r2 e2 q2 =>
    ⟨τ, J2, _, a2.go r2 (ee.trans e2), q2, fun u J3 H3 r3 e3 q3 => lr J3 H3 x l u v Q2 Q ((e2.trans e3).rep rx) r3 q3 fun z J4 w H4 rz r4 e4 q4 => k z J4 w H4 rz r4 (((ee.trans e2).trans e3).trans e4) q4⟩⟩⟩⟩
def rCB (q : RLr) (t : TAr) : TEr := fun τ J Q => t τ J fun xs J1 => q xs J1 Q
theorem cb_lift {r : List V → Hp → VK → Prop} {q : RLr} (lr : LRL X.K r q) : ∀ σ H Q, LE X.K G (rCB q t) σ H Q → L2.tCB r (LA X.K G t) σ H Q := fun σ H Q ⟨τ, J, Q2, a2, h, k⟩ =>
  ⟨τ, J, _, a2, h, fun xs J1 vs H1 rs r1 e1 q1 => lr J1 H1 xs vs Q2 Q rs r1 q1 fun z J' u H' rz rr ee qq => k z J' u H' rz rr (e1.trans ee) qq⟩
theorem re_callB {id : String} {q : RLr} (hc : CaL X (.builtin id) q) (hg : Gl X x) (hm : X.mg x = none) (hv : bootBuiltins x = some (.builtin id)) (ha : RA X G (e :: es) t) (hn : x ≠ "__name__" := by decide) (hdb : (x == ("__debug__" : Str)) = false := by decide)
    (he : starEach (e :: es) X.env = (false, eval e X.env) :: starEach es X.env := by rfl) (hpl : (backTo pos (starEach es X.env)).any (·.1) = false := by rfl) : RE X G (.Call (.Name x p) (e :: es) [] pos) (rCB q t) := by
  obtain ⟨r, h, lr⟩ := hc
  exact ⟨peW (L2.pe_callB h hg hm hv ha.run hn hdb he hpl) (cb_lift lr)⟩
theorem re_callTy {T : String} {q : RLr} (hc : CaL X (.type T) q) (hg : Gl X x) (hm : X.mg x = none) (hv : bootBuiltins x = some (.type T)) (ha : RA X G (e :: es) t) (hn : x ≠ "__name__" := by decide) (hdb : (x == ("__debug__" : Str)) = false := by decide)
    (he : starEach (e :: es) X.env = (false, eval e X.env) :: starEach es X.env := by rfl) (hpl : (backTo pos (starEach es X.env)).any (·.1) = false := by rfl) : RE X G (.Call (.Name x p) (e :: es) [] pos) (rCB q t) := by
  obtain ⟨r, h, lr⟩ := hc
  exact ⟨peW (L2.pe_callTy h hg hm hv ha.run hn hdb he hpl) (cb_lift lr)⟩
abbrev RMr := PV → List PV → Hq → (PV → Hq → Prop) → Prop
def MtL (X : Cx) (T id : String) (q : RMr) : Prop := ∃ r, MtR X id r ∧ ∀ J H x xs v vs Q2 Q, RepV X.K J H x v → RepVs X.K J H xs vs → Rep X.K J H → q x xs J Q2 → Kn X.K J H Q2 Q → r v vs H Q
def tyQ (T : String) (J : Hq) : PV → Prop
  | .str _ => T = "str"
  | .fl _ => T = "list"
  | .ref a => (T = "list" ∧ ∃ xs, J a = some (.lst xs)) ∨ (T = "dict" ∧ ∃ kvs ep, J a = some (.dct kvs ep))
  | _ => False
theorem tyQ_rep {K : PySem.W.Frag} {T : String} {J : Hq} {H : Hp} {x : PV} {v : V} (r : RepV K J H x v) (hp : Rep K J H) (h : tyQ T J x) : L2.tyV K T v H := by
  cases x with
  | str s => cases r; exact h
  | fl xs => obtain ⟨a, vs, rfl, h1, h2⟩ := r; exact .inl ⟨h, vs, h1.sq⟩
  | ref a =>
    cases r
    rcases h with ⟨h, xs, e⟩ | ⟨h, kvs, ep, e⟩
    · obtain ⟨vs, h1, _⟩ := hp _ _ e; exact .inl ⟨h, vs, .inl (.inl h1)⟩
    · obtain ⟨gs, h1, _⟩ := hp _ _ e; exact .inr (.inr (.inl ⟨h, .inr ⟨gs, ep, h1⟩⟩))
  | _ => cases h
def rBM (T : String) (q : RMr) (to : TEr) (t : TAr) : TEr := fun τ J Q => to τ J fun x J1 => tyQ T J1 x ∧ t τ J1 fun xs J2 => q x xs J2 Q
def rBM0 (T : String) (q : RMr) (to : TEr) : TEr := fun τ J Q => to τ J fun x J1 => tyQ T J1 x ∧ q x [] J1 Q
theorem re_bm {name : Str} {T id : String} {q : RMr} (pa : PlainAttrs T) (slot : Slot T name id) (hty : typeOf (.builtin id) = pure (.type "method_descriptor")) (hm : MtL X T id q) (ho : RE X G o to) (ha : RA X G (e :: es) t)
    (hbase : attributeBase o name X.env (eval o X.env) = eval o X.env := by rfl)
    (hfew : ((backTo cpos (starEach (e :: es) X.env)).all (fun x => !x.1) && (backToKw cpos (keywordEach [] X.env)).all (fun x => x.1.isSome)
      && decide ((e :: es).length + ([] : List Keyword).length + (if ([] : List Keyword).isEmpty then 0 else 1) < 30)) = true := by rfl)
    (hline : (apos.endLine == cpos.line) = true := by rfl) (hs : starEach (e :: es) X.env = (false, eval e X.env) :: starEach es X.env := by rfl) (hplain : (backTo cpos (starEach es X.env)).any (·.1) = false := by rfl) :
    RE X G (.Call (.Attribute o name apos) (e :: es) [] cpos) (rBM T q to t) := by
  obtain ⟨r, h, lr⟩ := hm
  exact ⟨peW (L2.pe_bm pa slot hty h ho.run ha.run hbase hfew hline hs hplain) fun σ H Q ⟨τ, J, Q2, a2, h, k⟩ => ⟨τ, J, _, a2, h, fun x J1 v H1 rx r1 e1 ⟨ty, q1⟩ => ⟨tyQ_rep rx r1 ty, τ, J1, _, a2.go r1 e1, q1, fun xs J2 vs H2 rs r2 e2 q2 =>
    lr J2 H2 x xs v vs Q2 Q (e2.rep rx) rs r2 q2 fun z J' u H' rz rr ee qq => k z J' u H' rz rr ((e1.trans e2).trans ee) qq⟩⟩⟩
end
end Ov
set_option Elab.async false
set_option linter.all false
set_option maxRecDepth 100000
namespace Ov
open PySem PySem.Spec PyProof.Rows
open L2 (V HO Hp Inv Cx VK XK TE TT TA TS TG TGs TI TO TSet Ends Vis Loc Gl Rd RelV Vals OpR UnR CallR IxR SlR MtR PSet R2 upd upd_same upd_ne SqL SqT Sp CXT It Same PlainIx Room Passes Cls NoAttr Meth Mk Binds FnOk Fun FnScope atI TyOf putF)
abbrev Spr := List PV → Hq → (PV → Hq → Prop) → (Addr → Hq → Prop) → Prop
def KnE (K : PySem.W.Frag) (J : Hq) (H : Hp) (E2 : Addr → Hq → Prop) (E : XK) : Prop := ∀ c J' H', Rep K J' H' → Ext K J H J' H' → E2 c J' → E (.ref c) none H'
def LSp (K : PySem.W.Frag) (sp : Spr) : Sp := fun vs H Q E => ∃ xs J Q2 E2, RepVs K J H xs vs ∧ Rep K J H ∧ sp xs J Q2 E2 ∧ Kn K J H Q2 Q ∧ KnE K J H E2 E
theorem KnE.ext {K : PySem.W.Frag} {J J' : Hq} {H H' : Hp} {E2 : Addr → Hq → Prop} {E : XK} (k : KnE K J H E2 E) (e : Ext K J H J' H') : KnE K J' H' E2 E := fun c J1 H1 r x q => k c J1 H1 r (e.trans x) q
theorem _root_.L2.FnOk.fly {P : Program} {w : World} {K : PySem.W.Frag} {mg : Str → Option Value} {base : Heap} {k : Nat} {f : Addr} {fd : FuncData} {ps : List Str} {sp : Sp} (F : FnOk P w K mg base L2.CX0 k f fd ps sp) : FnOk P w K mg base (Fly P w) k f fd ps sp :=
  ⟨F.len, fun A outer s H args us vs Q E hr he hb hv hs => codeAny_mono (F.run A outer s H args us vs Q E hr he hb hv hs) fun r s' q => by
    cases r with
    | error e => exact False.elim q
    | ok fl => cases fl <;> exact q⟩
theorem _root_.L2.FnOk.unfly {P : Program} {w : World} {K : PySem.W.Frag} {mg : Str → Option Value} {base : Heap} {k : Nat} {f : Addr} {fd : FuncData} {ps : List Str} {sp : Sp} (F : FnOk P w K mg base (Fly P w) k f fd ps sp) : FnOk P w K mg base L2.CX0 k f fd ps (fun vs H Q _ => sp vs H Q L2.E0) :=
  ⟨fun vs H Q E q => F.len vs H Q _ q, fun A outer s H args us vs Q E hr he hb hv hs => codeAny_mono (F.run A outer s H args us vs Q _ hr he hb hv hs) fun r s' q => by
    cases r with
    | error e => obtain ⟨_, _, _, _, _, z⟩ := q; exact z.elim
    | ok fl => cases fl <;> exact q⟩
def CanR (P : Program) (w : World) (K : PySem.W.Frag) (mg : Str → Option Value) (base : Heap) (k : Nat) (x : Str) (ps : List Str) (sp : Spr) : Prop := CanX P w K mg base k x ps (LSp K sp)
theorem CanR.imp {P : Program} {w : World} {K : PySem.W.Frag} {mg : Str → Option Value} {base : Heap} {k : Nat} {x : Str} {ps : List Str} {sp sp' : Spr} (C : CanR P w K mg base k x ps sp) (h : ∀ xs J Q E, sp' xs J Q E → sp xs J Q E) : CanR P w K mg base k x ps sp' := by
  obtain ⟨f, fd, F, r⟩ := C
  exact ⟨f, fd, F.imp fun vs H Q E ⟨xs, J, Q2, E2, a, b, c, d⟩ => ⟨xs, J, Q2, E2, a, b, h _ _ _ _ c, d⟩, r⟩
theorem _root_.Ov.Can.lift {P : Program} {w : World} {K : PySem.W.Frag} {mg : Str → Option Value} {base : Heap} {k : Nat} {x : Str} {ps : List Str} {sp : Sp} (C : Can P w K mg base k x ps sp) {sp' : Spr}
    (h : ∀ xs J vs H Q2 E2 Q E, RepVs K J H xs vs → Rep K J H → sp' xs J Q2 E2 → Kn K J H Q2 Q → sp vs H Q E) : CanR P w K mg base k x ps sp' := by
  obtain ⟨f, fd, F, r⟩ := C
  exact ⟨f, fd, (F.fly).imp fun vs H Q E ⟨xs, J, Q2, E2, a, b, c, d, _⟩ => h xs J vs H Q2 E2 Q E a b c d, r⟩
theorem CanX.lift {P : Program} {w : World} {K : PySem.W.Frag} {mg : Str → Option Value} {base : Heap} {k : Nat} {x : Str} {ps : List Str} {sp : Sp} (C : CanX P w K mg base k x ps sp) {sp' : Spr}
    (h : ∀ xs J vs H Q2 E2 Q E, RepVs K J H xs vs → Rep K J H → sp' xs J Q2 E2 → Kn K J H Q2 Q → KnE K J H E2 E → sp vs H Q E) : CanR P w K mg base k x ps sp' := by
  obtain ⟨f, fd, F, r⟩ := C
  exact ⟨f, fd, F.imp fun vs H Q E ⟨xs, J, Q2, E2, a, b, c, d, e⟩ => h xs J vs H Q2 E2 Q E a b c d e, r⟩
section
variable {X : Cx} {G : G2} {a b c e o value : Expr} {es rest : List Expr} {ta tb te tc to tv : TEr} {tA tB' : TTr} {t : TAr} {pos px p p2 apos cpos pos' : Pos} {x : Str} {i j : Nat} {E : XK} {E2 : Addr → Hq → Prop}
structure Ebd (X : Cx) (G : G2) (E2 : Addr → Hq → Prop) (E : XK) : Prop where
  pass : Passes (Fly X.prog X.w) X E
  kn : KnE X.K G.1 G.2 E2 E
def rCall (sp : Spr) (E2 : Addr → Hq → Prop) (t : TAr) : TEr := fun τ J Q => t τ J fun xs J1 => sp xs J1 Q E2
theorem re_fn {k k' : Nat} {ps : List Str} {sp : Spr} (C : CanR X.prog X.w X.K X.mg X.base k x ps sp) (B : Ebd X G E2 E) (hr : Room k' X.A) (ha : RA X G (e :: es) t) (hk : k ≤ k' := by decide) (hg : Gl X x := by rfl)
    (hdb : (x == ("__debug__" : Str)) = false := by decide) (he : starEach (e :: es) X.env = (false, eval e X.env) :: starEach es X.env := by rfl) (hpl : (backTo pos (starEach es X.env)).any (·.1) = false := by rfl) :
    RE X G (.Call (.Name x p) (e :: es) [] pos) (rCall sp E2 t) :=
  ⟨peW (pe_canX C B.pass hr hk hg ha.run hdb he hpl) fun σ H Q ⟨τ, J, Q2, a2, h, k⟩ => ⟨τ, J, _, a2, h, fun xs J1 vs H1 rs r1 e1 q1 => by
    simp only [List.append_nil]
    exact ⟨xs, J1, Q2, E2, rs, r1, q1, fun z J' u H' rz rr ee qq => k z J' u H' rz rr (e1.trans ee) qq, B.kn.ext (a2.ext.trans e1)⟩⟩⟩
def rFld (C : Addr) (ta : TEr) (f : Str) : TEr := fun τ J Q => ta τ J fun x J1 => onR x fun a => onC C (J1 a) fun fs => onS (fs.lookup f) fun v => Q v J1
structure MthR (P : Program) (w : World) (K : PySem.W.Frag) (mg : Str → Option Value) (base : Heap) (C : Addr) (k : Nat) (m : Str) (ps : List Str) (sp : Spr) : Prop where
  cl : Cls K C
  ex : ∃ f fd, Meth K C m f ∧ FnOk P w K mg base (Fly P w) k f fd ps (LSp K sp) ∧ Binds K fd ps []
theorem MthR.imp {P : Program} {w : World} {K : PySem.W.Frag} {mg : Str → Option Value} {base : Heap} {C : Addr} {k : Nat} {m : Str} {ps : List Str} {sp sp' : Spr} (M : MthR P w K mg base C k m ps sp) (h : ∀ xs J Q E, sp' xs J Q E → sp xs J Q E) : MthR P w K mg base C k m ps sp' := by
  obtain ⟨cl, f, fd, hm, F, r⟩ := M
  exact ⟨cl, f, fd, hm, F.imp fun vs H Q E ⟨xs, J, Q2, E2, a, b, c, d⟩ => ⟨xs, J, Q2, E2, a, b, h _ _ _ _ c, d⟩, r⟩
def rMth (C : Addr) (m : Str) (sp : Spr) (E2 : Addr → Hq → Prop) (ta : TEr) (t : TAr) : TEr := fun τ J Q => ta τ J fun x J1 => onR x fun a => onC C (J1 a) fun fs => fs.lookup m = none ∧ t τ J1 fun xs J2 => sp (x :: xs) J2 Q E2
def rMak (C : Addr) (sp : Spr) (E2 : Addr → Hq → Prop) (t : TAr) : TEr := fun τ J Q => t τ J fun xs J1 => ∀ a, J1 a = none → sp (.ref a :: xs) (put J1 a (.ins C [])) (fun v J2 => v = .non ∧ Q (.ref a) J2) E2
end
section
variable {X : Cx} {G : G2} {st : Stmt} {rest : List Stmt} {t u : TSr} {e tg o value : Expr} {es : List Expr} {te ta tv : TEr} {tc : TTr} {pos pos' : Pos}
def rNext : TSr := fun D τ J => D.nx τ J
def rSeq (t u : TSr) : TSr := fun D τ J => t { D with nx := u D } τ J
theorem rb_nil : RB X G [] rNext := ⟨pbW L2.pss_nil fun D σ H ⟨τ, J, D2, a2, h, g⟩ => g.nx τ J σ H a2.sl a2.hp .refl h⟩
theorem rb_cons (h1 : RS X G st t) (h2 : RB X G rest u) : RB X G (st :: rest) (rSeq t u) := ⟨pbW (L2.pss_cons h1.run h2.run) fun D σ H ⟨τ, J, D2, a2, h, g⟩ => ⟨τ, J, { D2 with nx := u D2 }, a2, h,
  { nx := fun τ' J' σ' H' rs rr ee q => ⟨τ', J', D2, ⟨rs, rr, a2.ext.trans ee⟩, q, g.ext ee⟩, rt := g.rt, bk := g.bk, ct := g.ct }⟩⟩
theorem rb_one (h1 : RS X G st t) : RB X G [st] t := ⟨L2.pss_one h1.run⟩
def rCut (t u : TSr) : TSr := fun D τ J => ∃ M : Sr → Hq → Prop, t { D with nx := M } τ J ∧ ∀ τ' J', M τ' J' → u D τ' J'
theorem rb_join (h1 : RS X G st t) (h2 : RB X G rest u) : RB X G (st :: rest) (rCut t u) := ⟨pbW (L2.pss_cons h1.run h2.run) fun D σ H ⟨τ, J, D2, a2, ⟨M, h, hm⟩, g⟩ => ⟨τ, J, { D2 with nx := M }, a2, h,
  { nx := fun τ' J' σ' H' rs rr ee q => ⟨τ', J', D2, ⟨rs, rr, a2.ext.trans ee⟩, hm _ _ q, g.ext ee⟩, rt := g.rt, bk := g.bk, ct := g.ct }⟩⟩
def rBrk : TSr := fun D τ J => D.bk τ J
def rCnt : TSr := fun D τ J => D.ct τ J
def rDrop (te : TEr) : TSr := fun D τ J => te τ J fun _ J1 => D.nx τ J1
def rRet (te : TEr) : TSr := fun D τ J => te τ J D.rt
theorem rs_ret (he : RE X G e te) : RS X G (.Return (some e) pos) (rRet te) := ⟨psW (L2.ps_ret he.run) fun D σ H ⟨τ, J, D2, a2, h, g⟩ => ⟨τ, J, _, a2, h, fun x J' v H' rx rr ee q => g.rt x J' v H' rx rr ee q⟩⟩
def rRetN : TSr := fun D _ J => D.rt .non J
def rIfS (c : TTr) (t u : TSr) : TSr := fun D τ J => c τ J fun b J1 => if b = true then t D τ J1 else u D τ J1
theorem rs_if {c : Expr} {a b : List Stmt} (hc : RT X G c tc) (ha : RB X G a t) (hb : RB X G b u) : RS X G (.If c a b pos) (rIfS tc t u) := ⟨psW (L2.ps_if hc.run ha.run hb.run) fun D σ H ⟨τ, J, D2, a2, h, g⟩ =>
  ⟨τ, J, _, a2, h, fun c J' H' rr ee q => by
    cases c with
    | true => simp only [if_true] at q ⊢; exact ⟨τ, J', D2, a2.go rr ee, q, g.ext ee⟩
    | false => simp only [Bool.false_eq_true, if_false] at q ⊢; exact ⟨τ, J', D2, a2.go rr ee, q, g.ext ee⟩⟩⟩
abbrev TGr := PV → Sr → Hq → (Sr → Hq → Prop) → Prop
abbrev TGsr := List PV → Sr → Hq → (Sr → Hq → Prop) → Prop
def LG (K : PySem.W.Frag) (G : G2) (t : TGr) : TG := fun v σ H Q => ∃ x τ J Q2, RepV K J H x v ∧ At2 K G τ J σ H ∧ t x τ J Q2 ∧ ∀ τ' J' σ' H', RepS K J' H' τ' σ' → Rep K J' H' → Ext K J H J' H' → Q2 τ' J' → Q σ' H'
def LGs (K : PySem.W.Frag) (G : G2) (t : TGsr) : TGs := fun vs σ H Q => ∃ xs τ J Q2, RepVs K J H xs vs ∧ At2 K G τ J σ H ∧ t xs τ J Q2 ∧ ∀ τ' J' σ' H', RepS K J' H' τ' σ' → Rep K J' H' → Ext K J H J' H' → Q2 τ' J' → Q σ' H'
structure RG (X : Cx) (G : G2) (e : Expr) (t : TGr) : Prop where
  run : L2.PG X e (LG X.K G t)
structure RGs (X : Cx) (G : G2) (es : List Expr) (t : TGsr) : Prop where
  run : L2.PGs X es (LGs X.K G t)
theorem pgW {X : Cx} {e : Expr} {t t' : TG} (h : L2.PG X e t) (k : ∀ v σ H Q, t' v σ H Q → t v σ H Q) : L2.PG X e t' := fun pins s σ H v u Q I r q => h pins s σ H v u Q I r (k _ _ _ _ q)
theorem pgsW {X : Cx} {e : List Expr} {t t' : TGs} (h : L2.PGs X e t) (k : ∀ v σ H Q, t' v σ H Q → t v σ H Q) : L2.PGs X e t' := fun pins s σ H v u Q I r q => h pins s σ H v u Q I r (k _ _ _ _ q)
def gNm (i : Nat) : TGr := fun x τ J Q => Q (τ.set i (some x)) J
theorem rg_name {i : Nat} {x : Str} (hN : X.N.Nodup) (hi : X.N[i]? = some x := by rfl) (hx : Loc X.env.scope x := by first | exact .inl rfl | exact .inr rfl) (hf : X.fn x = true ∨ X.env.scope.names.lookup x = some .local := by first | exact .inl rfl | exact .inr rfl | assumption) : RG X G (.Name x pos) (gNm i) :=
  ⟨pgW (L2.pg_name hN hi hx hf) fun v σ H Q ⟨x, τ, J, Q2, rx, a2, q, k⟩ => k _ J _ H (a2.sl.set i rx) a2.hp .refl q⟩
def gNi : TGsr := fun vs τ J Q => onN vs (Q τ J)
def gCo (t : TGr) (u : TGsr) : TGsr := fun vs τ J Q => onCo vs fun v r => t v τ J fun τ' J' => u r τ' J' Q
theorem rgs_nil : RGs X G [] gNi := ⟨pgsW L2.pgs_nil fun vs σ H Q ⟨xs, τ, J, Q2, rs, a2, hh, k⟩ => by obtain ⟨e, q⟩ := onN_ex hh; subst e; exact ⟨rs, k τ J σ H a2.sl a2.hp .refl q⟩⟩
theorem rgs_cons {e : Expr} {es : List Expr} {t : TGr} {u : TGsr} (h1 : RG X G e t) (h2 : RGs X G es u)
    (hs : (assignEach (e :: es) X.env).map (·.2) = assign e X.env :: (assignEach es X.env).map (·.2) := by rfl) : RGs X G (e :: es) (gCo t u) := ⟨pgsW (L2.pgs_cons h1.run h2.run hs) fun vs σ H Q ⟨xs, τ, J, Q2, rs, a2, hh, k⟩ => by
  obtain ⟨y, r, e, q⟩ := onCo_ex hh
  subst e
  obtain ⟨v, us, rfl, rv, ru⟩ := rs
  exact ⟨v, us, rfl, y, τ, J, _, rv, a2, q, fun τ' J' σ' H' rs' rr ee q' => ⟨r, τ', J', Q2, ee.reps ru, ⟨rs', rr, a2.ext.trans ee⟩, q', fun τ2 J2 σ2 H2 rs2 rr2 ee2 q2 => k τ2 J2 σ2 H2 rs2 rr2 (ee.trans ee2) q2⟩⟩⟩
def gTu (n : Nat) (t : TGsr) : TGr := fun x τ J Q => onU x fun xs => xs.length = n ∧ t xs τ J Q
theorem rg_tup {k : Nat} {t : TGsr} {n : Nat} (hc : X.calm = true) (h : RGs X G es t)
    (hn : (assignEach es X.env).length = n := by rfl) (hst : (assignEach es X.env).findIdx? (·.1) = none := by rfl) : RG X G (.Tuple es k pos) (gTu n t) := ⟨pgW (L2.pg_tup hc h.run hn hst) fun v σ H Q ⟨x, τ, J, Q2, rx, a2, hh, k⟩ => by
  obtain ⟨xs, e, l, q⟩ := onU_ex hh
  subst e
  obtain ⟨a, vs, rfl, h1, h2⟩ := rx
  exact ⟨a, vs, rfl, h1, by rw [← h2.length]; exact l, xs, τ, J, Q2, h2, a2, q, k⟩⟩
def rAsg (te : TEr) (g : TGr) : TSr := fun D τ J => te τ J fun x J1 => g x τ J1 D.nx
theorem rs_asg {tg e : Expr} {g : TGr} (he : RE X G e te) (hg : RG X G tg g) (hs : swapsWithSole [tg] e pos.line X.env = pure false := by rfl) (hw : swappedStores [tg] e X.env = pure none := by rfl)
    (h1 : (assignEach [tg] X.env).map (·.2) = [assign tg X.env] := by rfl) : RS X G (.Assign [tg] e pos) (rAsg te g) := ⟨psW (L2.ps_asg he.run hg.run hs hw h1) fun D σ H ⟨τ, J, D2, a2, h, g⟩ =>
  ⟨τ, J, _, a2, h, fun x J' v H' rx rr ee q => ⟨x, τ, J', _, rx, a2.go rr ee, q, fun τ' J2 σ' H2 rs r2 e2 q2 => g.nx τ' J2 σ' H2 rs r2 (ee.trans e2) q2⟩⟩⟩
theorem rs_set {i : Nat} {x : Str} {pos' : Pos} (hN : X.N.Nodup) (he : RE X G e te) (hi : X.N[i]? = some x := by rfl) (hx : Loc X.env.scope x := by first | exact .inl rfl | exact .inr rfl) (hs : swapsWith e (some (.Name x pos')) pos.line X.env = pure false := by rfl) (hf : X.fn x = true ∨ X.env.scope.names.lookup x = some .local := by first | exact .inl rfl | exact .inr rfl | assumption) :
    RS X G (.Assign [.Name x pos'] e pos) (rAsg te (gNm i)) := ⟨psW (L2.ps_set hN hi hx he.run hs hf) fun D σ H ⟨τ, J, D2, a2, h, g⟩ =>
  ⟨τ, J, _, a2, h, fun x J' v H' rx rr ee q => g.nx _ J' _ H' ((a2.sl.ext ee).set i rx) rr ee q⟩⟩
def rPar (i j : Nat) (ta : TAr) : TSr := fun D τ J => ta τ J fun vs J1 => onP vs fun v w => D.nx ((τ.set i (some v)).set j (some w)) J1
theorem rs_par {i j : Nat} {x y : Str} {a b : Expr} {ta : TAr} {px py pt : Pos} {kt k2 pt2} (hc : X.calm = true) (hN : X.N.Nodup) (hi : X.N[i]? = some x) (hj : X.N[j]? = some y) (hij : i ≠ j)
    (hx : X.env.scope.names.lookup x = some .local) (hy : X.env.scope.names.lookup y = some .local) (ha : RA X G [a, b] ta)
    (hw : swappedStores [.Tuple [.Name x px, .Name y py] kt pt] (.Tuple [a, b] k2 pt2) X.env = pure (some [x, y]))
    (hs : swapsWithSole [.Tuple [.Name x px, .Name y py] kt pt] (.Tuple [a, b] k2 pt2) pos.line X.env = pure false := by rfl) :
    RS X G (.Assign [.Tuple [.Name x px, .Name y py] kt pt] (.Tuple [a, b] k2 pt2) pos) (rPar i j ta) := ⟨psW (L2.ps_par hc hN hi hj hij hx hy ha.run hw hs) fun D σ H ⟨τ, J, D2, a2, h, g⟩ =>
  ⟨τ, J, _, a2, h, fun xs J' vs H' rs rr ee hh => by
    obtain ⟨v, w, e, q⟩ := onP_ex hh
    subst e
    obtain ⟨v', us, rfl, rv, w', us', rfl, rw', e'⟩ := rs
    cases e'
    exact ⟨v', w', rfl, g.nx _ J' _ H' (((a2.sl.ext ee).set i rv).set j rw') rr ee q⟩⟩⟩
def putR (f : Str) (v : PV) : List (Str × PV) → List (Str × PV)
  | [] => [(f, v)]
  | (g, w) :: r => if g = f then (g, v) :: r else (g, w) :: putR f v r
def rFldS (C : Addr) (ta tv : TEr) (f : Str) : TSr := fun D τ J => tv τ J fun y J1 => ta τ J1 fun x J2 => onR x fun a => onC C (J2 a) fun fs => fs.length < 1000 ∧ D.nx τ (put J2 a (.ins C (putR f y fs)))
structure Itr2 where
  xs : List PV
  ok : Hq → Prop
structure ItRel (K : PySem.W.Frag) (it : Itr2) (I : It) (J : Hq) (H : Hp) : Prop where
  go : ∀ J' H', Ext K J H J' H' → Rep K J' H' → it.ok J' → ∀ i, i < it.xs.length → I.go i H'
  yl : ∀ J' H', Ext K J H J' H' → Rep K J' H' → it.ok J' → ∀ i, i < it.xs.length → ∀ v H2, I.yld i H' v H2 → ∃ x, it.xs[i]? = some x ∧ RepV K J' H2 x v ∧ Rep K J' H2 ∧ Ext K J' H' J' H2
  stop : ∀ J' H', Ext K J H J' H' → Rep K J' H' → it.ok J' → I.stop it.xs.length H'
abbrev TIr := Sr → Hq → (Itr2 → Hq → Prop) → Prop
def LI (K : PySem.W.Frag) (G : G2) (t : TIr) : TI := fun σ H R => ∃ τ J R2, At2 K G τ J σ H ∧ t τ J R2 ∧ ∀ it J' I H', ItRel K it I J' H' → Rep K J' H' → Ext K J H J' H' → R2 it J' → R I H'
structure RI (X : Cx) (G : G2) (tg e : Expr) (t : TIr) : Prop where
  run : L2.PI X tg e (LI X.K G t)
theorem piW {X : Cx} {tg e : Expr} {t t' : TI} (h : L2.PI X tg e t) (k : ∀ σ H Q, t' σ H Q → t σ H Q) : L2.PI X tg e t' := fun pins s σ H Q I q => h pins s σ H Q I (k _ _ _ q)
def rFor (wi : TIr) (g : TGr) (tb : TSr) : TSr := fun D τ J => wi τ J fun it J1 => ∃ Pv : Nat → Sr → Hq → Prop, Pv 0 τ J1 ∧ (∀ i τ J, Pv i τ J → it.ok J) ∧
  (∀ i x τ J, it.xs[i]? = some x → Pv i τ J → g x τ J fun τ2 J2 => tb { D with nx := Pv (i + 1), ct := Pv (i + 1), bk := D.nx } τ2 J2) ∧ ∀ τ J, Pv it.xs.length τ J → D.nx τ J
theorem rs_for {iter : Expr} {body : List Stmt} {wi : TIr} {g : TGr} {tb : TSr} {pos : Pos} (hp : PassesOwn (model X.prog X.w) X.A X.env X.xe) (hc : X.calm = true) (hi : RI X G tg iter wi) (hg : RG X G tg g) (hb : RB X G body tb)
    (hs : ∀ x, foldedSetIterable iter X.env x = pure x := by intro _; rfl) : RS X G (.For tg iter body [] pos) (rFor wi g tb) := ⟨psW (L2.ps_for hp hc hi.run hg.run hb.run hs) fun D σ H ⟨τ, J, D2, a2, h, g⟩ => by
  refine ⟨τ, J, _, a2, h, fun it J1 I H1 ir r1 e1 ⟨Pv, p0, pok, step, fin⟩ => ?_⟩
  refine ⟨fun i m σ' H' => m = it.xs.length - i ∧ i ≤ it.xs.length ∧ ∃ τ' J', At2 X.K G τ' J' σ' H' ∧ Ext X.K J1 H1 J' H' ∧ Pv i τ' J', ⟨_, rfl, Nat.zero_le _, τ, J1, a2.go r1 e1, .refl, p0⟩, ?_⟩
  rintro i m σ2 H2 ⟨rfl, hil, τ2, J2, a3, e3, p3⟩
  by_cases hlt : i < it.xs.length
  · refine .inr ⟨ir.go J2 H2 e3 a3.hp (pok _ _ _ p3) i hlt, fun σ' H' => ∃ τ' J', At2 X.K G τ' J' σ' H' ∧ Ext X.K J1 H1 J' H' ∧ Pv (i + 1) τ' J', fun σ' H' z => ⟨_, by omega, rfl, hlt, z⟩, fun v H4 y => ?_⟩
    obtain ⟨x, ex, rx, r4, e4⟩ := ir.yl J2 H2 e3 a3.hp (pok _ _ _ p3) i hlt v H4 y
    refine ⟨x, τ2, J2, _, rx, a3.go r4 e4, step i x τ2 J2 ex p3, fun τ5 J5 σ5 H5 rs5 r5 e5 q5 => ?_⟩
    have ae := (a3.ext.trans e4).trans e5
    have ge := g.ext (((e1.trans e3).trans e4).trans e5)
    refine ⟨τ5, J5, { D2 with nx := Pv (i + 1), ct := Pv (i + 1), bk := D2.nx }, ⟨rs5, r5, ae⟩, q5, ?_⟩
    exact { nx := fun τ' J' σ' H' rs rr ee q => ⟨τ', J', ⟨rs, rr, ae.trans ee⟩, ((e3.trans e4).trans e5).trans ee, q⟩, rt := ge.rt, bk := ge.nx, ct := fun τ' J' σ' H' rs rr ee q => ⟨τ', J', ⟨rs, rr, ae.trans ee⟩, ((e3.trans e4).trans e5).trans ee, q⟩ }
  · have ei : i = it.xs.length := by omega
    subst ei
    exact .inl ⟨ir.stop J2 H2 e3 a3.hp (pok _ _ _ p3), g.nx τ2 J2 σ2 H2 a3.sl a3.hp (e1.trans e3) (fin _ _ p3)⟩⟩
def itQ (J : Hq) : PV → Option Itr2
  | .fl xs => some ⟨xs, fun _ => True⟩
  | .ref a => match J a with
    | some (.lst xs) => some ⟨xs, fun J' => J' a = some (.lst xs)⟩
    | _ => none
  | _ => none
def iLs (te : TEr) : TIr := fun τ J R => te τ J fun x J1 => onS (itQ J1 x) fun it => R it J1
theorem ItRel.list {K : PySem.W.Frag} {it : Itr2} {a : Addr} {J : Hq} {H : Hp} (h : ∀ J' H', Ext K J H J' H' → Rep K J' H' → it.ok J' → ∃ vs, SqL K H' a vs ∧ RepVs K J' H' it.xs vs) : ItRel K it (L2.Itl K a) J H where
  go := fun J' H' e r o i hi => by
    obtain ⟨vs, s, rs⟩ := h J' H' e r o
    exact ⟨vs, vs[i]'(by rw [← rs.length]; exact hi), s, by simp⟩
  yl := fun J' H' e r o i hi v H2 y => by
    obtain ⟨vs, s, rs⟩ := h J' H' e r o
    obtain ⟨e1, y⟩ := y
    subst e1
    obtain ⟨x, ex, rx⟩ := rs.get' (y vs s)
    exact ⟨x, ex, rx, r, .refl⟩
  stop := fun J' H' e r o => by
    obtain ⟨vs, s, rs⟩ := h J' H' e r o
    exact ⟨vs, s, by rw [rs.length]; exact Nat.le_refl _⟩
theorem ri_list {l : Expr} {tl : TEr} (hl : RE X G l tl) : RI X G tg l (iLs tl) := ⟨piW (L2.pi_list hl.run) fun σ H R ⟨τ, J, R2, a2, h, k⟩ => ⟨τ, J, _, a2, h, fun x J1 v H1 rx r1 e1 hh => by
  obtain ⟨it, ei, q⟩ := onS_ex hh
  cases x with
  | fl xs =>
    obtain ⟨a, vs, rfl, h1, h2⟩ := rx
    cases ei
    refine ⟨a, rfl, ⟨vs, h1.sq⟩, k _ J1 _ H1 (.list fun J' H' e r _ => ⟨vs, (e.flat h1).sq, e.reps h2⟩) r1 e1 q⟩
  | ref a =>
    cases rx
    unfold itQ at ei
    dsimp only at ei
    cases ej : J1 a with
    | none => rw [ej] at ei; cases ei
    | some o =>
      rw [ej] at ei
      cases o with
      | lst xs =>
        cases ei
        obtain ⟨vs, h1, h2⟩ := r1 _ _ ej
        refine ⟨a, rfl, ⟨vs, .inl (.inl h1)⟩, k _ J1 _ H1 (.list fun J' H' e r o => ?_) r1 e1 q⟩
        obtain ⟨vs', h1', h2'⟩ := r _ _ o
        exact ⟨vs', .inl (.inl h1'), h2'⟩
      | _ => cases ei
  | _ => cases ei⟩⟩
def iTu (te : TEr) : TIr := fun τ J R => te τ J fun x J1 => onU x fun xs => R ⟨xs, fun _ => True⟩ J1
theorem ri_tup {l : Expr} {tl : TEr} (hl : RE X G l tl) : RI X G tg l (iTu tl) := ⟨piW (L2.pi_tup hl.run) fun σ H R ⟨τ, J, R2, a2, h, k⟩ => ⟨τ, J, _, a2, h, fun x J1 v H1 rx r1 e1 hh => by
  obtain ⟨xs, ei, q⟩ := onU_ex hh
  subst ei
  obtain ⟨a, vs, rfl, h1, h2⟩ := rx
  refine ⟨a, rfl, ⟨vs, h1⟩, k _ J1 _ H1 ?_ r1 e1 q⟩
  exact {
    go := fun J' H' e r o i hi => ⟨vs, vs[i]'(by rw [← h2.length]; exact hi), e.tup _ _ h1, by simp⟩
    yl := fun J' H' e r o i hi v H2 y => by
      obtain ⟨e1, y⟩ := y
      subst e1
      obtain ⟨x, ex, rx⟩ := (e.reps h2).get' (y vs (e.tup _ _ h1))
      exact ⟨x, ex, rx, r, .refl⟩
    stop := fun J' H' e r o => ⟨vs, e.tup _ _ h1, by rw [h2.length]; exact Nat.le_refl _⟩ }⟩⟩
def irow (lo : Int) (n : Nat) : List PV := (List.range n).map fun (i : Nat) => PV.int (lo + (i : Int))
theorem irow_len (lo : Int) (n : Nat) : (irow lo n).length = n := by simp [irow]
theorem irow_get (lo : Int) (n i : Nat) (x : PV) : (irow lo n)[i]? = some x ↔ i < n ∧ x = .int (lo + i) := by
  unfold irow
  rw [List.getElem?_map]
  by_cases h : i < n
  · rw [List.getElem?_range h]; simp [h, eq_comm]
  · rw [List.getElem?_eq_none (by simpa using h)]; simp [h]
theorem ItRel.rng {K : PySem.W.Frag} {J : Hq} {H : Hp} (lo : Int) (n : Nat) : ItRel K ⟨irow lo n, fun _ => True⟩ (L2.Itr lo n) J H where
  go := fun J' H' e r o i hi => by
    show i < n
    simpa [irow_len] using hi
  yl := fun J' H' e r o i hi v H2 y => by
    obtain ⟨e1, y⟩ := y
    subst e1 y
    exact ⟨.int (lo + i), (irow_get lo n i _).mpr ⟨by simpa [irow_len] using hi, rfl⟩, rfl, r, .refl⟩
  stop := fun J' H' e r o => by
    show n ≤ (irow lo n).length
    rw [irow_len]; exact Nat.le_refl _
def iR1 (ta : TAr) : TIr := fun τ J R => ta τ J fun vs J1 => on1 vs fun x => onI x fun j => -(2 ^ 62) ≤ j ∧ j < 2 ^ 62 ∧ R ⟨irow 0 j.toNat, fun _ => True⟩ J1
def iR2 (ta : TAr) : TIr := fun τ J R => ta τ J fun vs J1 => onP vs fun x y => onI x fun i => onI y fun j => (-(2 ^ 62) ≤ i ∧ i < 2 ^ 62 ∧ -(2 ^ 62) ≤ j ∧ j < 2 ^ 62) ∧ R ⟨irow i (j - i).toNat, fun _ => True⟩ J1
theorem ri_range2 {a b : Expr} {ta : TAr} {p pos : Pos} (hg : Gl X "range") (hm : X.mg "range" = none) (ha : RA X G [a, b] ta) (hs : starEach [a, b] X.env = [(false, eval a X.env), (false, eval b X.env)] := by rfl) (hs2 : starEach [b] X.env = [(false, eval b X.env)] := by rfl) :
    RI X G tg (.Call (.Name "range" p) [a, b] [] pos) (iR2 ta) :=
  ⟨piW (L2.pi_range2 hg hm ha.run hs hs2) fun σ H R ⟨τ, J, R2, a2, h, k⟩ => ⟨τ, J, _, a2, h, fun xs J1 vs H1 rs r1 e1 hh => by
    obtain ⟨x, y, ex, hh⟩ := onP_ex hh; obtain ⟨i, ei, hh⟩ := onI_ex hh; obtain ⟨j, ej, l1, q⟩ := onI_ex hh; subst ei ej ex
    obtain ⟨v, us, rfl, rv, w, us', rfl, rw', e'⟩ := rs
    cases rv; cases rw'; cases e'
    exact ⟨i, j, rfl, l1, k _ J1 _ H1 (.rng i _) r1 e1 q⟩⟩⟩
def rRaise (C : Addr) (E2 : Addr → Hq → Prop) (t : TAr) : TSr := fun _ τ J => t τ J fun xs J1 => xs.length ≤ sizeLine ∧ E2 C J1
theorem rs_raise {E : XK} {E2 : Addr → Hq → Prop} {C : Addr} {x : Str} {t : TAr} {np cpos : Pos} (O : Own X.K X.mg x C) (hc : X.calm = true) (hx : Throws X E) (kn : KnE X.K G.1 G.2 E2 E) (hg : Gl X x) (ha : RA X G (e :: es) t)
    (hd : (x == ("__debug__" : Str)) = false := by decide) (he : starEach (e :: es) X.env = (false, eval e X.env) :: starEach es X.env := by rfl) (hpl : (backTo cpos (starEach es X.env)).any (·.1) = false := by rfl) :
    RS X G (.Raise (some (.Call (.Name x np) (e :: es) [] cpos)) none pos) (rRaise C E2 t) := ⟨psW (ps_raiseL O hc hx hg ha.run hd he hpl) fun D σ H ⟨τ, J, D2, a2, h, g⟩ =>
  ⟨τ, J, _, a2, h, fun xs J1 vs H1 rs r1 e1 ⟨hl, q⟩ => ⟨by rw [← rs.length]; exact hl, kn C J1 H1 r1 (a2.ext.trans e1) q⟩⟩⟩
end
section
variable {P : Program} {w : World} {K : PySem.W.Frag} {mg : Str → Option Value} {base : Heap}
section
variable {α β : Type} {a b : α} {l m : List α} {i : Nat} {f : α → β} {c : Bool}
theorem y_mapc : List.map f (a :: l) = f a :: List.map f l := rfl
theorem y_mapn : List.map f [] = [] := rfl
theorem y_lenc : (a :: l).length = l.length + 1 := rfl
theorem y_lenn : ([] : List α).length = 0 := rfl
theorem y_appc : (a :: l) ++ m = a :: (l ++ m) := rfl
theorem y_appn : [] ++ m = m := rfl
theorem y_g0 : (a :: l)[0]? = some a := rfl
theorem y_gs : (a :: l)[i + 1]? = l[i]? := rfl
theorem y_s0 : (a :: l).set 0 b = b :: l := rfl
theorem y_ss : (a :: l).set (i + 1) b = a :: l.set i b := rfl
theorem y_om : Option.map f (some a) = some (f a) := rfl
theorem y_og : (some a).getD b = a := rfl
theorem y_nt : (!true) = false := rfl
theorem y_nf : (!false) = true := rfl
theorem y_ta : (true && c) = c := rfl
theorem y_fa : (false && c) = false := rfl
theorem y_r0 : List.replicate 0 a = [] := rfl
theorem y_rs : List.replicate (i + 1) a = a :: List.replicate i a := rfl
theorem y_emc : (a :: l).isEmpty = false := rfl
theorem y_emn : ([] : List α).isEmpty = true := rfl
end
def strt (N : List Str) (xs : List PV) : Sr := xs.map some ++ List.replicate (N.length - xs.length) none
theorem strt_rep {J : Hq} {H : Hp} {N : List Str} {xs : List PV} {vs : List V} (r : RepVs K J H xs vs) : RepS K J H (strt N xs) (L2.start N vs) := by
  refine ⟨by simp [strt, L2.start, r.length], fun i x e => ?_⟩
  unfold strt at e
  unfold L2.start
  by_cases hi : i < xs.length
  · rw [List.getElem?_append_left (by simpa using hi), List.getElem?_map] at e
    cases ex : xs[i]? with
    | none => rw [ex] at e; cases e
    | some y =>
      rw [ex] at e
      cases e
      obtain ⟨v, h1, h2⟩ := r.get ex
      exact ⟨v, by rw [List.getElem?_append_left (by rw [List.length_map, ← r.length]; exact hi), List.getElem?_map, h1]; rfl, h2⟩
  · rw [List.getElem?_append_right (by simpa using hi)] at e
    have := List.mem_of_getElem? e
    rw [List.mem_replicate] at this
    cases this.2
theorem okR {x qual : Str} {st : Stmt} {f : Addr} {fd : FuncData} {N ps : List Str} {k : Nat} {sp : Spr} (F : Fun K x qual st f fd) (S : FnScope N ps (L2.defScope st)) (len : ∀ xs J Q E, sp xs J Q E → xs.length = ps.length)
    (hbody : ∀ (cdv : Value) (A : Around) (outer : List Env) (s : Shared) (H : Hp) (E : XK) (G : G2) (xs : List PV) (J : Hq) (Q : PV → Hq → Prop) (E2 : Addr → Hq → Prop), Room k (A.deeper (envOfC qual (L2.defScope st) s.heap.objs.size f cdv)) → sp xs J Q E2 →
      Ebd (cxF P w K mg base N qual (L2.defScope st) f cdv A outer s H E) G E2 E →
      ∃ t, RB (cxF P w K mg base N qual (L2.defScope st) f cdv A outer s H E) G (L2.defBody st) t ∧ t { nx := fun _ J' => Q .non J', rt := Q } (strt N xs) J) : FnOk P w K mg base (Fly P w) (k + 1) f fd ps (LSp K sp) := by
  refine okX F S (fun vs H Q E ⟨xs, J, Q2, E2, a, _, b, _⟩ => by rw [← a.length]; exact len _ _ _ _ b) fun cdv A outer s H vs Q E hr ⟨xs, J, Q2, E2, rs, rr, hs, kn, ke⟩ => ?_
  obtain ⟨t, hb, q⟩ := hbody cdv A outer s H E (J, H) xs J Q2 E2 hr hs ⟨cxF_passes, ke⟩
  refine ⟨_, ⟨hb.run⟩, strt N xs, J, _, ⟨strt_rep rs, rr, .refl⟩, q, ?_⟩
  exact { nx := fun τ J' σ H' _ r e q => kn .non J' .non H' rfl r e q, rt := fun x J' v H' rx r e q => kn x J' v H' rx r e q, bk := fun _ _ _ _ _ _ _ q => q.elim, ct := fun _ _ _ _ _ _ _ q => q.elim }
theorem okH {x qual : Str} {st : Stmt} {f : Addr} {fd : FuncData} {N ps : List Str} {k : Nat} {sp : Spr} {t : (Addr → Hq → Prop) → TSr} (F : Fun K x qual st f fd) (S : FnScope N ps (L2.defScope st)) (len : ∀ xs J Q E, sp xs J Q E → xs.length = ps.length)
    (rd : ∀ (cdv : Value) (A : Around) (outer : List Env) (s : Shared) (H : Hp) (E : XK) (G : G2) (E2 : Addr → Hq → Prop), Room k (A.deeper (envOfC qual (L2.defScope st) s.heap.objs.size f cdv)) →
      Ebd (cxF P w K mg base N qual (L2.defScope st) f cdv A outer s H E) G E2 E → RB (cxF P w K mg base N qual (L2.defScope st) f cdv A outer s H E) G (L2.defBody st) (t E2))
    (run : ∀ (xs : List PV) (J : Hq) (Q : PV → Hq → Prop) (E2 : Addr → Hq → Prop), sp xs J Q E2 → ∀ X : Prop, (t E2 { nx := fun _ J' => Q .non J', rt := Q } (strt N xs) J → X) → X) : FnOk P w K mg base (Fly P w) (k + 1) f fd ps (LSp K sp) :=
  okR F S len fun cdv A outer s H E G xs J Q E2 hr h B => ⟨_, rd cdv A outer s H E G E2 hr B, run xs J Q E2 h _ id⟩
theorem _root_.Ov.Def.canR {x : Str} {st : Stmt} {k : Nat} {ps : List Str} {sp : Spr} (D : Def K mg x st)
    (h : ∀ f fd, Fun K x x st f fd → FnOk P w K mg base (Fly P w) k f fd ps (LSp K sp))
    (hb : ∀ (kV doc pm : Value) (an : Option Addr) (cdv ct : Value) (us : List Value), us.length = ps.length → bindArgs (PySem.W.fnOf x x (L2.defArgs st) (L2.defBody st) (L2.defScope st) .none kV doc pm an cdv ct) ⟨us, []⟩ = pure (ps.zip us)) :
    CanR P w K mg base k x ps sp := D.canX h hb
end
end Ov
set_option Elab.async false
set_option linter.all false
set_option maxRecDepth 100000
namespace Ov
open PySem PySem.Spec PyProof.Rows
open L2 (V HO Hp Inv Cx VK XK TE TT TA TS TG TGs TI TO TSet Ends Vis Loc Gl Rd RelV Vals OpR UnR CallR IxR SlR MtR PSet R2 upd upd_same upd_ne SqL SqT Sp CXT It Same PlainIx Room Passes Cls NoAttr Meth Mk Binds FnOk Fun FnScope atI TyOf putF)
section
variable {X : Cx} {K : PySem.W.Frag}
def qI0 (g : Int → Int → PV) : R2r := fun x y J Q => onI x fun i => onI y fun j => Q (g i j) J
def qI (C : Int → Int → Prop) (g : Int → Int → PV) : R2r := fun x y J Q => onI x fun i => onI y fun j => C i j ∧ Q (g i j) J
theorem lr_I0 {g : Int → Int → V} {g' : Int → Int → PV} (hg : ∀ J H i j, RepV K J H (g' i j) (g i j)) : LR K (L2.rI0 g) (qI0 g') := fun J H x y v w Q2 Q rx ry r h k => by
  obtain ⟨i, ex, h⟩ := onI_ex h; obtain ⟨j, ey, q⟩ := onI_ex h
  subst ex ey; exact ⟨i, j, rx, ry, k _ J _ H (hg _ _ _ _) r .refl q⟩
theorem lr_I {C : Int → Int → Prop} {g : Int → Int → V} {g' : Int → Int → PV} (hg : ∀ J H i j, RepV K J H (g' i j) (g i j)) : LR K (L2.rI C g) (qI C g') := fun J H x y v w Q2 Q rx ry r h k => by
  obtain ⟨i, ex, h⟩ := onI_ex h; obtain ⟨j, ey, c, q⟩ := onI_ex h
  subst ex ey; exact ⟨i, j, rx, ry, c, k _ J _ H (hg _ _ _ _) r .refl q⟩
theorem oq_add : OpL X (binaryOp .Add) (qI0 fun i j => .int (i + j)) := ⟨_, L2.op_add, lr_I0 fun _ _ _ _ => rfl⟩
theorem oq_sub : OpL X (binaryOp .Sub) (qI0 fun i j => .int (i - j)) := ⟨_, L2.op_sub, lr_I0 fun _ _ _ _ => rfl⟩
theorem oq_mul : OpL X (binaryOp .Mult) (qI CM fun i j => .int (i * j)) := ⟨_, op_mulB, lr_I fun _ _ _ _ => rfl⟩
theorem oq_mod : OpL X (binaryOp .Mod) (qI (fun _ j => 0 < j) fun i j => .int (i % j)) := ⟨_, L2.op_mod, lr_I fun _ _ _ _ => rfl⟩
theorem oq_pow : OpL X (binaryOp .Pow) (qI L2.CPow fun i j => .int (i ^ j.toNat)) := ⟨_, L2.op_pow, lr_I fun _ _ _ _ => rfl⟩
theorem oq_lt : OpL X (compareOp .Lt) (qI0 fun i j => .bl (decide (i < j))) := ⟨_, L2.op_lt, lr_I0 fun _ _ _ _ => rfl⟩
theorem oq_gt : OpL X (compareOp .Gt) (qI0 fun i j => .bl (decide (j < i))) := ⟨_, L2.op_gt, lr_I0 fun _ _ _ _ => rfl⟩
theorem oq_ge : OpL X (compareOp .GtE) (qI0 fun i j => .bl (decide (j ≤ i))) := ⟨_, L2.op_ge, lr_I0 fun _ _ _ _ => rfl⟩
def qU (g : Int → PV) : R1r := fun x J Q => onI x fun i => Q (g i) J
def qLtS : R2r := fun x y J Q => onT x fun i => onT y fun j => Q (.bl (decide (i.cps.toList < j.cps.toList))) J
def isN : PV → Bool
  | .non => true
  | _ => false
def qIs : R2r := fun x y J Q => y = .non ∧ Q (.bl (isN x)) J
def qIsNot : R2r := fun x y J Q => y = .non ∧ Q (.bl (!isN x)) J
mutual
def pyOf : PV → Py
  | .non => .non | .bl b => .bl b | .int i => .int i | .str x => .str x | .ref _ => .non | .ty _ => .non | .tup xs => .tup (pyOfs xs) | .fl xs => .lst (pyOfs xs)
def pyOfs : List PV → List Py
  | [] => []
  | x :: xs => pyOf x :: pyOfs xs
end
mutual
def pur : PV → Bool
  | .ref _ => false | .ty _ => false | .tup xs => purs xs | .fl xs => purs xs | _ => true
def purs : List PV → Bool
  | [] => true
  | x :: xs => pur x && purs xs
end
mutual
theorem at_pyOf {J : Hq} {H : Hp} : ∀ {x : PV} {v : V}, pur x = true → RepV K J H x v → At K H (pyOf x) v
  | .non, _, _, h => h
  | .bl _, _, _, h => h
  | .int _, _, _, h => h
  | .str _, _, _, h => h
  | .tup xs, _, p, ⟨a, vs, e, h, k⟩ => ⟨a, vs, e, h, ats_pyOf (by simpa [pur] using p) k⟩
  | .fl xs, _, p, ⟨a, vs, e, h, k⟩ => ⟨a, vs, e, h.sq, ats_pyOf (by simpa [pur] using p) k⟩
theorem ats_pyOf {J : Hq} {H : Hp} : ∀ {xs : List PV} {vs : List V}, purs xs = true → RepVs K J H xs vs → Ats K H (pyOfs xs) vs
  | [], _, _, h => h
  | x :: xs, _, p, ⟨v, us, e, h, k⟩ => by
    have p' : pur x = true ∧ purs xs = true := by simpa [purs] using p
    exact ⟨v, us, e, at_pyOf p'.1 h, ats_pyOf p'.2 k⟩
end
def eqQ (x y : PV) : Bool := eqP (pyOf x) (pyOf y)
def cmQ (x : PV) : Prop := pur x = true ∧ dep (pyOf x) ≤ 60
def qEq (f : Bool → Bool) : R2r := fun x y J Q => cmQ x ∧ pur y = true ∧ Q (.bl (f (eqQ x y))) J
theorem lr_eq (f : Bool → Bool) : LR K (rP K f) (qEq f) := fun J H x y v w Q2 Q rx ry r ⟨⟨px, d⟩, py, q⟩ k => ⟨pyOf x, pyOf y, at_pyOf px rx, at_pyOf py ry, d, k (.bl _) J _ H rfl r .refl q⟩
theorem oq_eq (hu : X.A.units + 61 < cLine) : OpL X (compareOp .Eq) (qEq id) := ⟨_, op_eqP hu, lr_eq id⟩
theorem oq_ne (hu : X.A.units + 61 < cLine) : OpL X (compareOp .NotEq) (qEq not) := ⟨_, op_neP hu, lr_eq not⟩
def ixQ (J : Hq) : PV → PV → Option PV
  | .tup xs, .int i => atI xs i
  | .fl xs, .int i => atI xs i
  | .ref a, .int i => match J a with
    | some (.lst xs) => atI xs i
    | _ => none
  | _, _ => none
theorem RepVs.atI {J : Hq} {H : Hp} {xs : List PV} {vs : List V} {i : Int} {x : PV} (r : RepVs K J H xs vs) (h : L2.atI xs i = some x) : ∃ v, L2.atI vs i = some v ∧ RepV K J H x v := by
  unfold L2.atI at h ⊢
  rw [← r.length]
  cases e : L2.ixN xs.length i with
  | none => rw [e] at h; cases h
  | some j =>
    rw [e] at h
    obtain ⟨v, h1, h2⟩ := r.get h
    exact ⟨v, h1, h2⟩
def qIx : R2r := fun x y J Q => onS (ixQ J x y) fun v => Q v J
theorem iq_ix : IxL X qIx := ⟨_, L2.ix_list.or L2.ix_tup, fun J H x y v w Q2 Q rx ry r h k => by
  obtain ⟨z, ez, q⟩ := onS_ex h
  cases y with
  | int i =>
    cases ry
    cases x with
    | tup xs =>
      obtain ⟨a, vs, rfl, h1, h2⟩ := rx
      obtain ⟨u, e1, e2⟩ := h2.atI (show L2.atI xs i = some z from ez)
      exact .inr ⟨a, vs, i, u, rfl, rfl, h1, e1, k z J u H e2 r .refl q⟩
    | fl xs =>
      obtain ⟨a, vs, rfl, h1, h2⟩ := rx
      obtain ⟨u, e1, e2⟩ := h2.atI (show L2.atI xs i = some z from ez)
      exact .inl ⟨a, vs, i, u, rfl, rfl, h1.sq, e1, k z J u H e2 r .refl q⟩
    | ref a =>
      cases rx
      unfold ixQ at ez
      dsimp only at ez
      cases ej : J a with
      | none => rw [ej] at ez; cases ez
      | some o =>
        rw [ej] at ez
        cases o with
        | lst xs =>
          obtain ⟨vs, h1, h2⟩ := r _ _ ej
          obtain ⟨u, e1, e2⟩ := h2.atI (show L2.atI xs i = some z from ez)
          exact .inl ⟨a, vs, i, u, rfl, rfl, .inl (.inl h1), e1, k z J u H e2 r .refl q⟩
        | _ => cases ez
    | _ => cases ez
  | _ => cases x <;> cases ez⟩
def cutQ (xs : List PV) (lo hi : Option Int) : List PV := (xs.drop (HT.sIx xs.length 0 lo)).take (HT.sIx xs.length xs.length hi - HT.sIx xs.length 0 lo)
theorem cut_rep {J : Hq} {H : Hp} {xs : List PV} {vs : List V} {lo hi : Option Int} (r : RepVs K J H xs vs) : RepVs K J H (cutQ xs lo hi) (L2.cutV vs lo hi) := by
  unfold cutQ L2.cutV
  rw [← r.length]
  exact (r.drop _).take _
def qSlT : RSlr := fun x lo hi J Q => onU x fun xs => ¬ (HT.sIx xs.length 0 lo = 0 ∧ HT.sIx xs.length xs.length hi = xs.length) ∧ Q (.tup (cutQ xs lo hi)) J
def lsQ (J : Hq) : PV → Option (List PV)
  | .fl xs => some xs
  | .ref a => match J a with
    | some (.lst xs) => some xs
    | _ => none
  | _ => none
theorem lsQ_rep {J : Hq} {H : Hp} {x : PV} {v : V} {xs : List PV} (rx : RepV K J H x v) (r : Rep K J H) (h : lsQ J x = some xs) : ∃ a vs, v = .ref a ∧ SqL K H a vs ∧ RepVs K J H xs vs := by
  cases x with
  | fl ys => obtain ⟨a, vs, rfl, h1, h2⟩ := rx; cases h; exact ⟨a, vs, rfl, h1.sq, h2⟩
  | ref a =>
    cases rx
    unfold lsQ at h
    dsimp only at h
    cases ej : J a with
    | none => rw [ej] at h; cases h
    | some o =>
      rw [ej] at h
      cases o with
      | lst ys => cases h; obtain ⟨vs, h1, h2⟩ := r _ _ ej; exact ⟨a, vs, rfl, .inl (.inl h1), h2⟩
      | _ => cases h
  | _ => cases h
def qSlF : RSlr := fun x lo hi J Q => onS (lsQ J x) fun xs => Q (.fl (cutQ xs lo hi)) J
theorem sq_fl : SlL X qSlF := ⟨_, L2.sl_list, fun J H x lo hi v Q2 Q rx r h k => by
  obtain ⟨xs, ex, q⟩ := onS_ex h
  obtain ⟨a, vs, rfl, h1, h2⟩ := lsQ_rep rx r ex
  refine ⟨a, vs, rfl, h1, fun p hp => ?_⟩
  obtain ⟨x1, x2, x3⟩ := new_fl r (cut_rep (lo := lo) (hi := hi) h2) hp
  exact k _ J _ _ x1 x2 x3 q⟩
def qSlL : RSlr := fun x lo hi J Q => onS (lsQ J x) fun xs => ∀ p, J p = none → Q (.ref p) (put J p (.lst (cutQ xs lo hi)))
def qAbs : RLr := fun xs J Q => on1 xs fun x => onI x fun i => Q (.int (if i < 0 then -i else i)) J
theorem cq_abs : CaL X (.builtin "abs") qAbs := ⟨_, L2.call_abs, fun J H xs vs Q2 Q rs r h k => by
  obtain ⟨x, ex, h⟩ := on1_ex h; obtain ⟨i, ei, q⟩ := onI_ex h; subst ei
  subst ex; obtain ⟨v, us, rfl, rv, e⟩ := rs; cases rv; cases e
  exact ⟨i, rfl, k (.int _) J _ H rfl r .refl q⟩⟩
def lenQ (J : Hq) : PV → Option Nat
  | .tup xs => some xs.length
  | x => (lsQ J x).map List.length
def qLen : RLr := fun xs J Q => on1 xs fun x => onS (lenQ J x) fun n => Q (.int n) J
theorem cq_len : CaL X (.builtin "len") qLen := ⟨_, L2.call_len_seq, fun J H xs vs Q2 Q rs r h k => by
  obtain ⟨x, ex, h⟩ := on1_ex h; obtain ⟨n, en, q⟩ := onS_ex h
  subst ex; obtain ⟨v, us, rfl, rv, e⟩ := rs; cases e
  have go : ∀ ys, lsQ J x = some ys → ys.length = n → ∃ p ws, ([v] : List V) = [.ref p] ∧ (SqL X.K H p ws ∨ SqT X.K H p ws) ∧ Q (.int ws.length) H := fun ys h1 h2 => by
    obtain ⟨a, ws, rfl, h3, h4⟩ := lsQ_rep rv r h1
    exact ⟨a, ws, rfl, .inl h3, by rw [← h4.length, h2]; exact k (.int _) J _ H rfl r .refl q⟩
  cases x with
  | tup ys =>
    obtain ⟨a, ws, rfl, h1, h2⟩ := rv
    cases en
    exact ⟨a, ws, rfl, .inr h1, by rw [← h2.length]; exact k (.int _) J _ H rfl r .refl q⟩
  | fl ys => cases en; exact go _ rfl rfl
  | ref a =>
    unfold lenQ at en
    cases el : lsQ J (.ref a) with
    | none => simp [el] at en
    | some ys => simp [el] at en; exact go _ el en
  | _ => cases en⟩
def tyN (J : Hq) : PV → Option String
  | .non => some "NoneType" | .bl _ => some "bool" | .int _ => some "int" | .str _ => some "str" | .tup _ => some "tuple" | .fl _ => some "list"
  | .ref a => match J a with
    | some (.lst _) => some "list"
    | some (.dct _ _) => some "dict"
    | _ => none
  | _ => none
def subT (t n : String) : Option Bool :=
  if n ∈ ["int", "bool", "str", "tuple", "list"] then some (t == n || (t == "bool" && n == "int")) else none
theorem kit_all (K : PySem.W.Frag) {t n : String} {b : Bool} (ht : t ∈ ["NoneType", "bool", "int", "str", "tuple", "list", "dict"]) (h : subT t n = some b) : PySem.W.kitOne K (.type t) (.type n) = some b := by
  unfold subT at h
  by_cases hn : n ∈ ["int", "bool", "str", "tuple", "list"]
  · rw [if_pos hn] at h
    simp only [List.mem_cons, List.not_mem_nil, or_false] at ht hn
    rcases ht with rfl | rfl | rfl | rfl | rfl | rfl | rfl <;> rcases hn with rfl | rfl | rfl | rfl | rfl <;> cases h <;> with_unfolding_all rfl
  · rw [if_neg hn] at h; cases h
theorem tyN_mem {J : Hq} {x : PV} {t : String} (h : tyN J x = some t) : t ∈ ["NoneType", "bool", "int", "str", "tuple", "list", "dict"] := by
  cases x with
  | ref a =>
    unfold tyN at h
    dsimp only at h
    cases ej : J a with
    | none => rw [ej] at h; cases h
    | some o => rw [ej] at h; cases o <;> cases h <;> simp
  | ty n => cases h
  | _ => cases h; simp
def onY (x : PV) (k : String → Prop) (_ : Dep k := dp) : Prop := match x with | .ty n => k n | _ => False
theorem onY_e {x : String} {k : String → Prop} {d : Dep k} : onY (.ty x) k d = k x := rfl
theorem onY_ex {x : PV} {k : String → Prop} {d : Dep k} (h : onY x k d) : ∃ n, x = .ty n ∧ k n := by cases x <;> first | exact ⟨_, rfl, h⟩ | exact False.elim h
def qIsi : RLr := fun xs J Q => onP xs fun x y => onY y fun n => onS (tyN J x) fun t => onS (subT t n) fun b => Q (.bl b) J
theorem call_isiT : CallR X (.builtin "isinstance") (fun xs H Q => ∃ x n t b, xs = [x, .ty n] ∧ (TyOf X.K H x (.type t) ∨ (t = "tuple" ∧ ∃ a vs, x = .ref a ∧ SqT X.K H a vs) ∨ (t = "list" ∧ ∃ a vs, x = .ref a ∧ SqL X.K H a vs)) ∧ PySem.W.kitOne X.K (.type t) (.type n) = some b ∧ Q (.bl b) H) := by
  intro pins s σ H xs us Q I r h
  obtain ⟨x, n, t, b, rfl, ty, e, q⟩ := h
  obtain ⟨u, w', rfl, rx, ry⟩ := L2.vals2 r
  cases (show w' = Value.type n from ry)
  rcases ty with ty | ⟨rfl, a, vs, rfl, hs⟩ | ⟨rfl, a, vs, rfl, hs⟩
  · exact L2.isinst_ok I rx ty e fun tk => ⟨.bl b, H, I.tok _, rfl, q⟩
  · cases rx
    obtain ⟨its, _, ⟨o, h1, h2, _⟩, _⟩ := I.tuple hs
    exact PySem.W.kia_one PySem.W.kitx_tuple I.kIn ⟨o, h1, h2⟩ e (fun z => nomatch z) fun tk => ⟨.bl b, H, I.tok _, rfl, q⟩
  · cases rx
    obtain ⟨its, _, ⟨o, _, h1, h2, _⟩, _⟩ := I.list hs
    exact PySem.W.kia_one PySem.W.kitx_list I.kIn ⟨o, h1, h2⟩ e (fun z => nomatch z) fun tk => ⟨.bl b, H, I.tok _, rfl, q⟩
theorem cq_isi : CaL X (.builtin "isinstance") qIsi := ⟨_, call_isiT, fun J H xs vs Q2 Q rs r h k => by
  obtain ⟨x, y, ex, h⟩ := onP_ex h; obtain ⟨n, ey, h⟩ := onY_ex h; obtain ⟨t, et, h⟩ := onS_ex h; obtain ⟨b, es, q⟩ := onS_ex h
  subst ey
  subst ex
  obtain ⟨v, us, rfl, rv, w, us', rfl, rw', e⟩ := rs
  cases rw'; cases e
  refine ⟨v, n, t, b, rfl, ?_, kit_all X.K (tyN_mem et) es, k (.bl _) J _ H rfl r .refl q⟩
  cases x with
  | non => cases rv; cases et; exact .inl .non
  | bl i => cases rv; cases et; exact .inl (.bl i)
  | int i => cases rv; cases et; exact .inl (.int i)
  | str i => cases rv; cases et; exact .inl (.str i)
  | tup xs => obtain ⟨a, ws, rfl, h1, _⟩ := rv; cases et; exact .inr (.inl ⟨rfl, a, ws, rfl, h1⟩)
  | fl xs =>
    obtain ⟨a, ws, rfl, h1, _⟩ := rv; cases et
    exact .inr (.inr ⟨rfl, a, ws, rfl, h1.sq⟩)
  | ty n => cases et
  | ref a =>
    cases rv
    unfold tyN at et
    dsimp only at et
    cases ej : J a with
    | none => rw [ej] at et; cases et
    | some o =>
      rw [ej] at et
      have z := r _ _ ej
      cases o with
      | lst xs => obtain ⟨ws, h1, _⟩ := z; cases et; exact .inl (.lst h1)
      | dct kvs ep => obtain ⟨gs, h1, _⟩ := z; cases et; exact .inl (.dE h1)
      | tab => cases et
      | dtp hs ks => cases et
      | ins C fs => cases et⟩
def qCopyF : RLr := fun xs J Q => on1 xs fun x => onS (lsQ J x) fun ys => Q (.fl ys) J
def qCopyL : RLr := fun xs J Q => on1 xs fun x => onS (lsQ J x) fun ys => ∀ p, J p = none → Q (.ref p) (put J p (.lst ys))
def qMax : RLr := fun xs J Q => ∃ i j, xs = [.int i, .int j] ∧ Q (.int (if j > i then j else i)) J
def qAppend : RMr := fun x xs J Q => onR x fun a => on1 xs fun y => onL (J a) fun ys => ys.length < sizeLine ∧ Q .non (put J a (.lst (ys ++ [y])))
def qPop : RMr := fun x xs J Q => ∃ a ys y, x = .ref a ∧ xs = [] ∧ J a = some (.lst ys) ∧ ys[ys.length - 1]? = some y ∧ Q y (put J a (.lst ys.dropLast))
theorem RepVs.dropLast {J : Hq} {H : Hp} {xs : List PV} {vs : List V} (r : RepVs K J H xs vs) : RepVs K J H xs.dropLast vs.dropLast := by
  rw [List.dropLast_eq_take, List.dropLast_eq_take, ← r.length]
  exact r.take _
def qClear : RMr := fun x xs J Q => ∃ a ys, x = .ref a ∧ xs = [] ∧ J a = some (.lst ys) ∧ Q .non (put J a (.lst []))
def qInsert : RMr := fun x xs J Q => ∃ a ys i y, x = .ref a ∧ xs = [.int (i : Nat), y] ∧ J a = some (.lst ys) ∧ i ≤ ys.length ∧ ys.length < sizeLine ∧ i < 2 ^ 62 ∧ Q .non (put J a (.lst (ys.take i ++ y :: ys.drop i)))
end
end Ov
set_option Elab.async false
set_option linter.all false
set_option maxRecDepth 100000
namespace Ov
open PySem PySem.Spec PyProof.Rows
open L2 (V HO Hp Inv Cx VK XK TE TT TA TS TG TGs TI TO TSet Ends Vis Loc Gl Rd RelV Vals OpR UnR CallR IxR SlR MtR PSet R2 upd upd_same upd_ne SqL SqT Sp CXT It Same PlainIx Room Passes Cls NoAttr Meth Mk Binds FnOk Fun FnScope atI TyOf putF)
def selR (ks : List (Str × Nat)) (τ : Sr) : Sr := ks.map fun p => (τ[p.2]?).getD none
theorem sel_rep {K : PySem.W.Frag} {J : Hq} {H : Hp} {τ : Sr} {σ : L2.St} (r : RepS K J H τ σ) {x : PV} {v : V} (rx : RepV K J H x v) (ks : List (Str × Nat)) : RepS K J H (some x :: selR ks τ) (some v :: selC ks σ) := by
  refine ⟨by simp [selR, selC], fun i y e => ?_⟩
  cases i with
  | zero => rw [List.getElem?_cons_zero] at e ⊢; cases e; exact ⟨v, rfl, rx⟩
  | succ i =>
    rw [List.getElem?_cons_succ] at e ⊢
    unfold selR at e
    unfold selC
    rw [List.getElem?_map] at e ⊢
    cases ep : ks[i]? with
    | none => rw [ep] at e; cases e
    | some p =>
      rw [ep] at e
      have e' : (τ[p.2]?).getD none = some y := Option.some.inj e
      have e2 : τ[p.2]? = some (some y) := by
        cases q : τ[p.2]? with
        | none => rw [q] at e'; cases e'
        | some w => rw [q] at e'; exact congrArg some e'
      obtain ⟨v', h1, h2⟩ := r.get _ _ e2
      exact ⟨v', by show some ((σ[p.2]?).getD none) = _; rw [h1]; rfl, h2⟩
def Sub (J J' : Hq) : Prop := ∀ a o, J a = some o → J' a = some o
theorem Sub.refl (J : Hq) : Sub J J := fun _ _ h => h
theorem Sub.put {J : Hq} {D : Addr} {o : HQ} (h : J D = none) : Sub J (put J D o) := fun a u e => by
  have ne : a ≠ D := by intro z; subst z; rw [h] at e; cases e
  rw [put_ne ne]; exact e
def LCw (it : Itr2) (J1 : Hq) (ks : List (Str × Nat)) (τ : Sr) (tc : TTr) (te : TEr) (c : PV → Bool) (g : PV → PV) : Prop := it.xs.length < sizeLine ∧ ∀ J', Sub J1 J' → it.ok J' ∧
  ∀ x ∈ it.xs, tc (some x :: selR ks τ) J' (fun b J2 => b = c x ∧ J2 = J') ∧ (c x = true → te (some x :: selR ks τ) J' fun y J2 => y = g x ∧ J2 = J')
def rLCf (wi : TIr) (ks : List (Str × Nat)) (tc : TTr) (te : TEr) : TEr := fun τ J Q => wi τ J fun it J1 => ∃ (c : PV → Bool) (g : PV → PV), LCw it J1 ks τ tc te c g ∧ Q (.fl ((it.xs.filter c).map g)) J1
def rTrue : TTr := fun _ J Q => Q true J
section
variable {X : Cx} {G : G2}
theorem take_filter {α : Type} (c : α → Bool) {xs : List α} {i : Nat} {x : α} (h : xs[i]? = some x) : (xs.take (i + 1)).filter c = (xs.take i).filter c ++ (if c x = true then [x] else []) := by
  rw [List.take_add_one, h, List.filter_append]
  congr 1
  simp only [Option.toList_some, List.filter_cons, List.filter_nil]
theorem lc_lift {K : PySem.W.Frag} {ks : List (Str × Nat)} {tc : TTr} {te : TEr} {σ : L2.St} {H : Hp} {Q : VK} {τ : Sr} {J : Hq} (a2 : At2 K G τ J σ H) {it : Itr2} {J1 : Hq} {I : It} {H1 : Hp} (ir : ItRel K it I J1 H1) (r1 : Rep K J1 H1) (e1 : Ext K J H J1 H1) {c : PV → Bool} {g : PV → PV}
    (w : LCw it J1 ks τ tc te c g)
    (q : ∀ D H2, H1 D = none → J1 D = none → Rep K (put J1 D (.lst ((it.xs.filter c).map g))) H2 → Ext K J1 H1 (put J1 D (.lst ((it.xs.filter c).map g))) H2 → Q (.ref D) H2) :
    ∀ D, H1 D = none → ∃ W : Nat → Nat → Hp → Prop, (∃ m, W 0 m (upd H1 D (.lst []))) ∧ ∀ i m H2, W i m H2 → (I.stop i H2 ∧ Q (.ref D) H2) ∨
      (I.go i H2 ∧ ∀ v H3, I.yld i H2 v H3 → LT K G tc (some v :: selC ks σ) H3 fun b H4 => if b = true then LE K G te (some v :: selC ks σ) H4 fun y H5 => ∃ ys, H5 D = some (.lst ys) ∧ ys.length < sizeLine ∧ ∃ m', m' < m ∧ W (i + 1) m' (upd H5 D (.lst (ys ++ [y]))) else ∃ m', m' < m ∧ W (i + 1) m' H4) := by
  intro D hD
  obtain ⟨hlen, w⟩ := w
  have jD : J1 D = none := r1.free hD
  refine ⟨fun i m H2 => m = it.xs.length - i ∧ i ≤ it.xs.length ∧ Rep K (put J1 D (.lst (((it.xs.take i).filter c).map g))) H2 ∧ Ext K J1 H1 (put J1 D (.lst (((it.xs.take i).filter c).map g))) H2, ⟨_, rfl, Nat.zero_le _, r1.laidL (xs := []) (vs := []) hD rfl, .laid hD⟩, ?_⟩
  rintro i m H2 ⟨rfl, hi, r2, e2⟩
  obtain ⟨ok, ww⟩ := w _ (Sub.put (o := .lst (((it.xs.take i).filter c).map g)) jD)
  by_cases hlt : i < it.xs.length
  · refine .inr ⟨ir.go _ H2 e2 r2 ok i hlt, fun v H3 y => ?_⟩
    obtain ⟨x, ex, rx, r3, e3⟩ := ir.yl _ H2 e2 r2 ok i hlt v H3 y
    obtain ⟨hc, he⟩ := ww x (List.mem_of_getElem? ex)
    have a3 : At2 K G (some x :: selR ks τ) _ (some v :: selC ks σ) H3 := ⟨sel_rep (a2.sl.ext ((e1.trans e2).trans e3)) rx ks, r3, ((a2.ext.trans e1).trans e2).trans e3⟩
    refine ⟨_, _, _, a3, hc, fun b J4 H4 r4 e4 ⟨eb, ej⟩ => ?_⟩
    subst ej
    cases hb : c x with
    | false =>
      rw [eb, hb]
      simp only [Bool.false_eq_true, if_false]
      refine ⟨_, by omega, rfl, hlt, ?_⟩
      rw [take_filter c ex, hb]
      simp only [Bool.false_eq_true, if_false, List.append_nil]
      exact ⟨r4, (e2.trans e3).trans e4⟩
    | true =>
      rw [eb, hb]
      simp only [if_true]
      refine ⟨_, _, _, a3.go r4 e4, he hb, fun z J5 u H5 rz r5 e5 ⟨ez, ej⟩ => ?_⟩
      subst ej ez
      obtain ⟨ys, h5, ry⟩ := r5 D _ put_same
      have ll : ys.length ≤ i := by
        rw [← ry.length, List.length_map]
        exact Nat.le_trans (List.length_filter_le _ _) (by rw [List.length_take]; omega)
      have r6 := r5.wrote (ys := ((it.xs.take i).filter c).map g ++ [g x]) (vs := ys ++ [u]) put_same h5 (ry.append (show RepVs K _ H5 [g x] [u] from ⟨u, [], rfl, rz, rfl⟩))
      have e6 := Ext.wrote (K := K) (ys := ((it.xs.take i).filter c).map g ++ [g x]) (vs := ys ++ [u]) (J := put J1 D (.lst (((it.xs.take i).filter c).map g))) put_same h5
      rw [put_put] at r6 e6
      refine ⟨ys, h5, by omega, _, by omega, rfl, hlt, ?_⟩
      rw [take_filter c ex, hb, if_pos rfl, List.map_append]
      exact ⟨r6, (((e2.trans e3).trans e4).trans e5).trans e6⟩
  · have ei : i = it.xs.length := by omega
    subst ei
    rw [List.take_length] at r2 e2 ok
    exact .inl ⟨ir.stop _ H2 e2 r2 ok, q D H2 hD jD r2 e2⟩
theorem freeze {K : PySem.W.Frag} {J1 : Hq} {H2 : Hp} {D : Addr} {xs : List PV} (jD : J1 D = none) (r : Rep K (put J1 D (.lst xs)) H2) : RepV K J1 H2 (.fl xs) (.ref D) ∧ Rep K J1 H2 ∧ Ext K (put J1 D (.lst xs)) H2 J1 H2 := by
  obtain ⟨ys, h, ry⟩ := r D _ put_same
  have less : ∀ a, J1 a = put J1 D (.lst xs) a ∨ J1 a = none := fun a => by
    by_cases e : a = D
    · subst e; exact .inr jD
    · rw [put_ne e]; exact .inl rfl
  have e := Ext.less (K := K) (H := H2) less
  exact ⟨⟨D, ys, rfl, .inl ⟨jD, .inl h⟩, e.reps ry⟩, r.less less, e⟩
theorem lc1_lift {wi : TIr} {ks : List (Str × Nat)} {te : TEr} : ∀ σ H Q, LE X.K G (rLCf wi ks rTrue te) σ H Q → tLC (LI X.K G wi) ks (LE X.K G te) σ H Q := fun σ H Q ⟨τ, J, Q2, a2, h, k⟩ =>
  ⟨τ, J, _, a2, h, fun it J1 I H1 ir r1 e1 ⟨c, g, w, q⟩ D hD => by
    obtain ⟨W, w0, turn⟩ := lc_lift (Q := Q) a2 ir r1 e1 w (fun D H2 hD jD r2 e2 => let ⟨x1, x2, x3⟩ := freeze jD r2; k _ J1 _ H2 x1 x2 ((e1.trans e2).trans x3) q) D hD
    refine ⟨W, w0, fun i m H2 hw => ?_⟩
    rcases turn i m H2 hw with z | ⟨go, z⟩
    · exact .inl z
    · refine .inr ⟨go, fun v H3 y => ?_⟩
      obtain ⟨τ', J', Q', a', t', k'⟩ := z v H3 y
      have := k' true J' H3 a'.hp .refl t'
      simpa using this⟩
variable {elt iter cnd : Expr} {x y : Str} {px py : Pos} {sc : Scope} {pos spos : Pos} {wi : TIr} {te : TEr} {tc : TTr} {i : Nat}
theorem re_lc (osc : Scope) (N : List Str) (ks : List (Str × Nat)) (hc : X.calm = true) (ho : X.env.scope = osc) (hN : X.N = N) (hi : RI X G (.Name x px) iter wi) (he : ∀ cl C s₀ H₀ fp pins, RE (cxC X sc cl C x ks s₀ H₀ fp pins) G elt te)
    (ok : CompOk sc osc N x ks := by decide +kernel) (hs : ∀ x, foldedSetIterable iter X.env x = pure x := by intro _; rfl) : RE X G (.ListComp elt [⟨.Name x px, iter, [], 0⟩] sc pos) (rLCf wi ks rTrue te) :=
  ⟨peW (pe_lc osc N ks hc ho hN hi.run (fun cl C s₀ H₀ fp pins => (he cl C s₀ H₀ fp pins).run) ok hs) lc1_lift⟩
end
end Ov
set_option Elab.async false
set_option linter.all false
set_option maxRecDepth 100000
namespace Ov
open PySem PySem.Spec PyProof.Rows
section
open HT (lexLt)
open PySem.SeqAt
open PySem.AutoSeq1 (wpAny_loadPart')
open PySem.MeetsSeq PySem.MeetsSeq2 PySem.MeetsSeq3
section
variable {prog : Program} {w : World} {A : Around} {E : Value → Shared → Prop} {s : Shared}
end
end
open L2 (V HO Hp Inv Cx VK XK TE TT TA TS TG TGs TI TO TSet Ends Vis Loc Gl Rd RelV Vals OpR UnR CallR IxR SlR MtR PSet R2 upd upd_same upd_ne SqL SqT Sp CXT It Same PlainIx Room Passes Cls NoAttr Meth Mk Binds FnOk Fun FnScope atI TyOf putF)
section
variable {X : Cx} {K : PySem.W.Frag}
theorem op_catS : OpR X (binaryOp .Add) (fun x y H Q => ∃ l b xs zs, x = .ref l ∧ y = .ref b ∧ SqL X.K H l xs ∧ SqL X.K H b zs ∧ xs.length + zs.length ≤ sizeLine ∧ ∀ p, H p = none → Q (.ref p) (upd H p (.lst (xs ++ zs)))) := by
  intro pins s σ H x y v u Q I rx ry h
  obtain ⟨l, b, xs, zs, rfl, rfl, hH, hB, hz, q⟩ := h
  cases rx; cases ry
  obtain ⟨its, r, pl, _⟩ := I.list hH
  obtain ⟨its2, r2, pl2, _⟩ := I.list hB
  have l1 := r.length
  have l2 := r2.length
  obtain ⟨⟨c1, d1, da1, sl1⟩, n, e, hc, hd, hda⟩ := pl
  obtain ⟨⟨c2, d2, da2, sl2⟩, n2, e2, hc2, hd2, hda2⟩ := pl2
  simp only at hc hd hda hc2 hd2 hda2
  subst hc hd hda hc2 hd2 hda2
  refine concat_meets ⟨_, e, rfl⟩ ⟨_, e2, rfl⟩ noFill_list_add seq_list_add PySem.F.slot_list_add PySem.F.entry_list_add (PySem.F.args_list_add_2 _ _) (list_addW l b its.toArray its2.toArray n n2 none none sl1 sl2 (by simp only [List.size_toArray]; omega)) ⟨e, e2, ?_⟩
  have ea : its.toArray ++ its2.toArray = (its ++ its2).toArray := by simp
  rw [ea]
  exact ⟨.ref _, _, I.lnew (t' := s.toks) (r.append r2) (by rw [List.length_append]; omega), rfl, q _ I.fresh⟩
def qCatF : R2r := fun x y J Q => ∃ xs ys, lsQ J x = some xs ∧ lsQ J y = some ys ∧ xs.length + ys.length ≤ sizeLine ∧ Q (.fl (xs ++ ys)) J
theorem oq_catF : OpL X (binaryOp .Add) qCatF := ⟨_, op_catS, fun J H x y v w Q2 Q rx ry r ⟨xs, ys, ex, ey, hl, q⟩ k => by
  obtain ⟨a, vs, rfl, h1, h2⟩ := lsQ_rep rx r ex
  obtain ⟨b, ws, rfl, h3, h4⟩ := lsQ_rep ry r ey
  refine ⟨a, b, vs, ws, rfl, rfl, h1, h3, by rw [← h2.length, ← h4.length]; exact hl, fun p hp => ?_⟩
  obtain ⟨x1, x2, x3⟩ := new_fl r (h2.append h4) hp
  exact k _ J _ _ x1 x2 x3 q⟩
end
section
variable {P : Program} {w : World} {K : PySem.W.Frag} {mg : Str → Option Value} {base : Heap}
end
theorem arS {n : Nat} {F : List Value → Prop} (h : ∀ a us, us.length = n → F (a :: us)) (us : List Value) (hu : us.length = n + 1) : F us := by
  cases us with
  | nil => cases hu
  | cons a us => exact h a us (Nat.succ.inj hu)
theorem ar0 {F : List Value → Prop} (h : F []) (us : List Value) (hu : us.length = 0) : F us := by
  cases us with
  | nil => exact h
  | cons a us => cases hu
theorem ar1 {F : List Value → Prop} (h : ∀ a, F [a]) : ∀ us : List Value, us.length = 1 → F us := arS fun a => ar0 (F := fun us => F (a :: us)) (h a)
theorem ar2 {F : List Value → Prop} (h : ∀ a b, F [a, b]) : ∀ us : List Value, us.length = 2 → F us := arS fun a => ar1 (F := fun us => F (a :: us)) (h a)
end Ov
set_option Elab.async false
set_option linter.all false
set_option maxRecDepth 100000
namespace Ov
open PySem PySem.Spec PyProof.Rows
open L2 (V HO Hp Inv Cx VK XK Rd SqL SqT Sp Same Room Passes FnOk Fun FnScope atI upd upd_same upd_ne)
def fr (q : Rat) : PV := .tup [.int q.num, .int (q.den : Int)]
theorem fr_inj (a b : Rat) : (fr a = fr b) = (a = b) := by
  apply propext
  constructor
  · intro h
    unfold fr at h
    simp only [PV.tup.injEq, List.cons.injEq, PV.int.injEq, and_true] at h
    exact Rat.ext h.1 (by have := h.2; omega)
  · intro h; rw [h]
theorem fr_eq (a : Rat) : fr a = .tup [.int a.num, .int (a.den : Int)] := rfl
theorem ix_fr0 (J : Hq) (q : Rat) : ixQ J (fr q) (.int 0) = some (.int q.num) := atI_0 _ _
theorem ix_fr1 (J : Hq) (q : Rat) : ixQ J (fr q) (.int 1) = some (.int (q.den : Int)) := atI_1 _ _ _
theorem ty_fr (J : Hq) (q : Rat) : tyN J (fr q) = some "tuple" := rfl
theorem len_fr (J : Hq) (q : Rat) : lenQ J (fr q) = some 2 := rfl
theorem pur_fr (q : Rat) : pur (fr q) = true := by simp [fr, pur, purs]
theorem isN_fr (q : Rat) : isN (fr q) = false := rfl
theorem dep_fr (q : Rat) : dep (pyOf (fr q)) = 1 := by simp [fr, pyOf, pyOfs, dep, deps]
theorem cm_fr (q : Rat) : cmQ (fr q) = True := eq_true ⟨pur_fr q, by rw [dep_fr]; decide⟩
theorem cm_int (i : Int) : cmQ (.int i) = True := eq_true ⟨by simp [pur], by simp [pyOf, dep]⟩
theorem cm_str (i : Str) : cmQ (.str i) = True := eq_true ⟨by simp [pur], by simp [pyOf, dep]⟩
theorem cm_bl (i : Bool) : cmQ (.bl i) = True := eq_true ⟨by simp [pur], by simp [pyOf, dep]⟩
theorem cm_non : cmQ .non = True := eq_true ⟨by simp [pur], by simp [pyOf, dep]⟩
theorem pur_int (i : Int) : pur (.int i) = true := by simp [pur]
theorem pur_str (i : Str) : pur (.str i) = true := by simp [pur]
theorem pur_bl (i : Bool) : pur (.bl i) = true := by simp [pur]
theorem pur_non : pur .non = true := by simp [pur]
theorem purs_map {α : Type} (g : α → PV) (h : ∀ a, pur (g a) = true) : ∀ xs : List α, purs (xs.map g) = true
  | [] => by simp [purs]
  | x :: xs => by simp [purs, h, purs_map g h xs]
theorem eq_int (a b : Int) : eqQ (.int a) (.int b) = decide (a = b) := by unfold eqQ pyOf eqP; rw [Bool.beq_eq_decide_eq]
theorem eq_str (a b : Str) : eqQ (.str a) (.str b) = decide (a = b) := by
  unfold eqQ pyOf eqP
  cases h : a == b with
  | true => simp at h; simp [h]
  | false => simp at h; simp [h]
theorem eq_bl (a b : Bool) : eqQ (.bl a) (.bl b) = decide (a = b) := by unfold eqQ pyOf eqP; rw [Bool.beq_eq_decide_eq]
def eqQs (xs ys : List PV) : Bool := eqPs (pyOfs xs) (pyOfs ys)
theorem eq_tup (xs ys : List PV) : eqQ (.tup xs) (.tup ys) = eqQs xs ys := by unfold eqQ pyOf eqP eqQs; rfl
theorem eqs_cons (x y : PV) (xs ys : List PV) : eqQs (x :: xs) (y :: ys) = (eqQ x y && eqQs xs ys) := by unfold eqQs eqQ; simp [pyOfs, eqPs]
theorem eqs_nil : eqQs [] [] = true := by unfold eqQs; simp [pyOfs, eqPs]
theorem eq_self (x : PV) : eqQ x x = true := eqP_self _
theorem eq_fr (a b : Rat) : eqQ (fr a) (fr b) = decide (a = b) := by
  rw [fr_eq, fr_eq, eq_tup, eqs_cons, eqs_cons, eqs_nil, eq_int, eq_int, Bool.and_true, ← Bool.decide_and]
  exact decide_eq_decide.mpr (by rw [rat_iff])
theorem sl3 (a b c : PV) : cutQ [a, b, c] (some 1) none = [b, c] := rfl
theorem tz_int : subT "int" "int" = some true := by simp [subT]
theorem tz_bool : subT "int" "bool" = some false := by simp [subT]
theorem tz_bb : subT "bool" "bool" = some true := by simp [subT]
theorem tz_str : subT "str" "str" = some true := by simp [subT]
theorem tz_tup : subT "tuple" "tuple" = some true := by simp [subT]
theorem tz_list : subT "list" "list" = some true := by simp [subT]
theorem le_line {n : Nat} (h : n ≤ 1000) : n ≤ sizeLine := Nat.le_of_lt (L2.small1000 h)
theorem line0 : (0 ≤ sizeLine) = True := eq_true (Nat.zero_le _)
theorem line1 : (1 ≤ sizeLine) = True := eq_true (le_line (by decide))
theorem line2 : (2 ≤ sizeLine) = True := eq_true (le_line (by decide))
theorem line3 : (3 ≤ sizeLine) = True := eq_true (le_line (by decide))
theorem line4 : (4 ≤ sizeLine) = True := eq_true (le_line (by decide))
section
variable (J : Hq) (xs : List PV) (a : Addr) (i : Int) (b : Bool) (z : Str) (T : String)
theorem ix_t : ixQ J (.tup xs) (.int i) = atI xs i := rfl
theorem ix_f : ixQ J (.fl xs) (.int i) = atI xs i := rfl
theorem ix_r : ixQ J (.ref a) (.int i) = (match J a with | some (.lst xs) => atI xs i | _ => none) := rfl
theorem ls_f : lsQ J (.fl xs) = some xs := rfl
theorem ls_r : lsQ J (.ref a) = (match J a with | some (.lst xs) => some xs | _ => none) := rfl
theorem len_t : lenQ J (.tup xs) = some xs.length := rfl
theorem len_f : lenQ J (.fl xs) = some xs.length := rfl
theorem len_r : lenQ J (.ref a) = (match J a with | some (.lst xs) => some xs | _ => none).map List.length := rfl
theorem ty_n : tyN J .non = some "NoneType" := rfl
theorem ty_b' : tyN J (.bl b) = some "bool" := rfl
theorem ty_i : tyN J (.int i) = some "int" := rfl
theorem ty_s : tyN J (.str z) = some "str" := rfl
theorem ty_t : tyN J (.tup xs) = some "tuple" := rfl
theorem ty_f : tyN J (.fl xs) = some "list" := rfl
theorem ty_r : tyN J (.ref a) = (match J a with | some (.lst _) => some "list" | some (.dct _ _) => some "dict" | _ => none) := rfl
theorem tru_n : truQ J .non = some false := rfl
theorem tru_b : truQ J (.bl b) = some b := rfl
theorem tru_i : truQ J (.int i) = some (i != 0) := rfl
theorem tru_t : truQ J (.tup xs) = some (!xs.isEmpty) := rfl
theorem tru_f : truQ J (.fl xs) = some (!xs.isEmpty) := rfl
theorem tru_r : truQ J (.ref a) = (match J a with | some (.lst xs) => some (!xs.isEmpty) | some (.dct kvs _) => some (!kvs.isEmpty) | _ => none) := rfl
theorem it_f : itQ J (.fl xs) = some ⟨xs, fun _ => True⟩ := rfl
theorem it_r : itQ J (.ref a) = (match J a with | some (.lst xs) => some ⟨xs, fun J' => J' a = some (.lst xs)⟩ | _ => none) := rfl
theorem is_n : isN .non = true := rfl
theorem is_b : isN (.bl b) = false := rfl
theorem is_i : isN (.int i) = false := rfl
theorem is_s : isN (.str z) = false := rfl
theorem is_t : isN (.tup xs) = false := rfl
theorem is_f : isN (.fl xs) = false := rfl
theorem is_r : isN (.ref a) = false := rfl
theorem tq_f : tyQ T J (.fl xs) = (T = "list") := rfl
theorem tq_s : tyQ T J (.str z) = (T = "str") := rfl
theorem tq_r : tyQ T J (.ref a) = ((T = "list" ∧ ∃ xs, J a = some (.lst xs)) ∨ (T = "dict" ∧ ∃ kvs ep, J a = some (.dct kvs ep))) := rfl
end
def Fo (it : Itr2) (g : TGr) (tb : TSr) (D : En) (τ : Sr) (J1 : Hq) : Prop := ∃ Pv : Nat → Sr → Hq → Prop, Pv 0 τ J1 ∧ (∀ i τ J, Pv i τ J → it.ok J) ∧
  (∀ i x τ J, it.xs[i]? = some x → Pv i τ J → g x τ J fun τ2 J2 => tb { D with nx := Pv (i + 1), ct := Pv (i + 1), bk := D.nx } τ2 J2) ∧ ∀ τ J, Pv it.xs.length τ J → D.nx τ J
theorem rFor_eq (wi : TIr) (g : TGr) (tb : TSr) (D : En) (τ : Sr) (J : Hq) : rFor wi g tb D τ J = wi τ J fun it J1 => Fo it g tb D τ J1 := rfl
theorem for_rng {lo : Int} {n : Nat} {g : TGr} {tb : TSr} {D : En} {τ : Sr} {J1 : Hq} (Pv : Nat → Sr → Hq → Prop) (h0 : Pv 0 τ J1)
    (hs : ∀ (i : Nat) τ J, i < n → Pv i τ J → g (.int (lo + (i : Int))) τ J fun τ2 J2 => tb { D with nx := Pv (i + 1), ct := Pv (i + 1), bk := D.nx } τ2 J2) (hd : ∀ τ J, Pv n τ J → D.nx τ J) : Fo ⟨irow lo n, fun _ => True⟩ g tb D τ J1 :=
  ⟨Pv, h0, fun _ _ _ _ => trivial, fun i x τ J e p => by obtain ⟨a, b⟩ := (irow_get lo n i x).mp e; subst b; exact hs i τ J a p, fun τ J p => hd τ J (by simpa [irow_len] using p)⟩
structure BltR (mg : Str → Option Value) : Prop extends Blt mg where
  str : mg "str" = none
  dict : mg "dict" = none
  max : mg "max" = none
  zip : mg "zip" = none
  enumerate : mg "enumerate" = none
def Less (J' J : Hq) : Prop := ∀ a, J' a = J a ∨ J' a = none
def Fg (Q : PV → Hq → Prop) (v : PV) (J : Hq) : Prop := ∃ x J', Less J' J ∧ (x = v ∨ ∃ a xs, v = .ref a ∧ x = .fl xs ∧ J a = some (.lst xs) ∧ J' a = none) ∧ Q x J'
theorem Fg.same {Q : PV → Hq → Prop} {v : PV} {J : Hq} (h : Q v J) : Fg Q v J := ⟨v, J, fun _ => .inl rfl, .inl rfl, h⟩
theorem Fg.less {Q : PV → Hq → Prop} {v : PV} {J J' : Hq} (l : Less J' J) (h : Q v J') : Fg Q v J := ⟨v, J', l, .inl rfl, h⟩
theorem Fg.frz {Q : PV → Hq → Prop} {a : Addr} {xs : List PV} {J J' : Hq} (l : Less J' J) (ha : J a = some (.lst xs)) (hn : J' a = none) (h : Q (.fl xs) J') : Fg Q (.ref a) J := ⟨.fl xs, J', l, .inr ⟨a, xs, rfl, rfl, ha, hn⟩, h⟩
section
variable {P : Program} {w : World} {K : PySem.W.Frag} {mg : Str → Option Value} {base : Heap}
theorem Fg.kn {J : Hq} {H : Hp} {Q2 : PV → Hq → Prop} {Q : VK} (k : Kn K J H Q2 Q) : Kn K J H (Fg Q2) Q := fun z J1 u H1 rz r1 e1 ⟨x, J', l, hx, q⟩ => by
  have el := Ext.less (K := K) (H := H1) l
  rcases hx with rfl | ⟨a, xs, rfl, rfl, ha, hn⟩
  · exact k x J' u H1 (el.rep rz) (r1.less l) (e1.trans el) q
  · cases rz
    obtain ⟨vs, h1, h2⟩ := r1 _ _ ha
    exact k (.fl xs) J' _ H1 ⟨a, vs, rfl, .inl ⟨hn, .inl h1⟩, el.reps h2⟩ (r1.less l) (e1.trans el) q
end
section
variable {P : Program} {w : World} {K : PySem.W.Frag} {mg : Str → Option Value} {base : Heap}
end
theorem ebd0 {X : Cx} {G : G2} : Ebd X G (fun _ _ => False) L2.E0 := ⟨fun _ _ _ _ _ _ _ ⟨_, _, _, _, _, z⟩ => z.elim, fun _ _ _ _ _ z => z.elim⟩
theorem reps_ints {K : PySem.W.Frag} {J : Hq} {H : Hp} : ∀ ns : List Int, RepVs K J H (ns.map PV.int) (ns.map V.int)
  | [] => rfl
  | n :: ns => ⟨_, _, rfl, rfl, reps_ints ns⟩
end Ov
set_option Elab.async false
set_option linter.all false
set_option maxRecDepth 100000
namespace Ov
open PySem PySem.Spec PyProof.Rows L2
theorem atI_4 {α : Type} (a b c d e : α) (xs : List α) : atI (a :: b :: c :: d :: e :: xs) 4 = some e := atI_nat (j := 4) rfl
theorem atI_5 {α : Type} (a b c d e f : α) (xs : List α) : atI (a :: b :: c :: d :: e :: f :: xs) 5 = some f := atI_nat (j := 5) rfl
theorem atI_6 {α : Type} (a b c d e f g : α) (xs : List α) : atI (a :: b :: c :: d :: e :: f :: g :: xs) 6 = some g := atI_nat (j := 6) rfl
theorem atI_7 {α : Type} (a b c d e f g h : α) (xs : List α) : atI (a :: b :: c :: d :: e :: f :: g :: h :: xs) 7 = some h := atI_nat (j := 7) rfl
theorem atI_8 {α : Type} (a b c d e f g h i : α) (xs : List α) : atI (a :: b :: c :: d :: e :: f :: g :: h :: i :: xs) 8 = some i := atI_nat (j := 8) rfl
theorem atI_9 {α : Type} (a b c d e f g h i j : α) (xs : List α) : atI (a :: b :: c :: d :: e :: f :: g :: h :: i :: j :: xs) 9 = some j := atI_nat (j := 9) rfl
theorem atI_10 {α : Type} (a b c d e f g h i j k : α) (xs : List α) : atI (a :: b :: c :: d :: e :: f :: g :: h :: i :: j :: k :: xs) 10 = some k := atI_nat (j := 10) rfl
theorem atI_11 {α : Type} (a b c d e f g h i j k l : α) (xs : List α) : atI (a :: b :: c :: d :: e :: f :: g :: h :: i :: j :: k :: l :: xs) 11 = some l := atI_nat (j := 11) rfl
theorem line5 : (5 ≤ sizeLine) = True := eq_true (le_line (by decide))
theorem line6 : (6 ≤ sizeLine) = True := eq_true (le_line (by decide))
theorem line7 : (7 ≤ sizeLine) = True := eq_true (le_line (by decide))
theorem line8 : (8 ≤ sizeLine) = True := eq_true (le_line (by decide))
theorem line9 : (9 ≤ sizeLine) = True := eq_true (le_line (by decide))
theorem line10 : (10 ≤ sizeLine) = True := eq_true (le_line (by decide))
theorem line11 : (11 ≤ sizeLine) = True := eq_true (le_line (by decide))
theorem line12 : (12 ≤ sizeLine) = True := eq_true (le_line (by decide))
theorem sizes_ok {ss : List Int} (h : ss.all (fun s => decide (0 < s) && decide (s < 2 ^ 63)) = true) : ∀ s ∈ ss, 0 < s ∧ Bd 9000 s := fun s hs => by
  have := List.all_eq_true.mp h s hs
  rw [Bool.and_eq_true, decide_eq_true_eq, decide_eq_true_eq] at this
  exact ⟨this.1, (Bd.small (by omega) (by omega)).mono (by decide)⟩
end Ov
set_option Elab.async false
set_option linter.all false
set_option maxRecDepth 100000
namespace Ov
open PySem PySem.Spec PyProof.Rows
open L2 (V HO Hp Inv Cx VK XK TE TT TA TS TG TGs TI TO TSet Ends Vis Loc Gl Rd RelV Vals OpR UnR CallR IxR SlR MtR PSet R2 upd upd_same upd_ne SqL SqT Sp CXT It Same PlainIx Room Passes Cls NoAttr Meth Mk Binds FnOk Fun FnScope atI TyOf putF)
section
variable {X : Cx} {G : G2}
abbrev TStr := PV → PV → PV → Hq → (Hq → Prop) → Prop
def gSb (to ti : TEr) (t : TStr) : TGr := fun y τ J R => to τ J fun o J1 => ti τ J1 fun i J2 => t o i y J2 fun J3 => R τ J3
def qSetL : TStr := fun o i y J R => ∃ p xs k j, o = .ref p ∧ i = .int k ∧ J p = some (.lst xs) ∧ L2.ixN xs.length k = some j ∧ R (put J p (.lst (xs.set j y)))
def rAug (i : Nat) (te : TEr) (q : R2r) : TSr := fun D τ J => on2 τ[i]? fun x => te τ J fun y J1 => q x y J1 fun z J2 => D.nx (τ.set i (some z)) J2
end
theorem for_ls {xs : List PV} {ok : Hq → Prop} {g : TGr} {tb : TSr} {D : En} {τ : Sr} {J1 : Hq} (Pv : Nat → Sr → Hq → Prop) (h0 : Pv 0 τ J1) (hk : ∀ i τ J, Pv i τ J → ok J)
    (hs : ∀ (i : Nat) x τ J, xs[i]? = some x → Pv i τ J → g x τ J fun τ2 J2 => tb { D with nx := Pv (i + 1), ct := Pv (i + 1), bk := D.nx } τ2 J2) (hd : ∀ τ J, Pv xs.length τ J → D.nx τ J) : Fo ⟨xs, ok⟩ g tb D τ J1 := ⟨Pv, h0, hk, hs, hd⟩
theorem own_mk {K : PySem.W.Frag} {h : Heap} {mg : Str → Option Value} {x : Str} {C : Addr} (X : K.In h) (G : h.Ns mainGlobals mg) (a : PySem.W.nsIn K mainGlobals x = some (some (.ref C))) (b : (PySem.W.excIn K C bmV "ValueError.__new__" && xclsB K C) = true) : Own K mg x C :=
  ⟨PySem.W.mg_of X G a, (Bool.and_eq_true_iff.mp b).1, xcls_of (Bool.and_eq_true_iff.mp b).2⟩
theorem ls_cases {J : Hq} {x : PV} {ys : List PV} (h : lsQ J x = some ys) : x = .fl ys ∨ ∃ a, x = .ref a ∧ J a = some (.lst ys) := by
  cases x with
  | fl xs => cases h; exact .inl rfl
  | ref a =>
    right
    refine ⟨a, rfl, ?_⟩
    unfold lsQ at h
    simp only at h
    split at h
    · rename_i e; cases h; exact e
    · cases h
  | _ => cases h
end Ov
set_option Elab.async false
set_option linter.all false
set_option maxRecDepth 100000
namespace Ov
open PySem PySem.Spec PyProof.Rows
open L2 (V HO Hp Inv Cx VK XK TE TT TA TS TG TGs TI TO TSet Ends Vis Loc Gl Rd RelV Vals OpR UnR CallR IxR SlR MtR PSet R2 upd upd_same upd_ne SqL SqT Sp CXT It Same PlainIx Room Passes Cls NoAttr Meth Mk Binds FnOk Fun FnScope atI TyOf putF)
def flagsP (j : Nat) : List PV := .bl true :: (List.range 10).map fun k => .bl (decide (j = k))
def rTry (c : Nat → Addr) (N n : Nat) (t : (Addr → Hq → Prop) → TSr) : TSr := fun D τ J =>
  t (fun a J' => ∃ j, j < 10 ∧ a = c j ∧ D.nx ((List.replicate N none).set n (some (.fl (flagsP j)))) J') D τ J
section
variable {X : Cx} {G : G2}
end
theorem seq_hd {a b : TSr} {D : En} {τ : Sr} {J : Hq} (h : ∀ N : Sr → Hq → Prop, (∀ τ' J', b D τ' J' → N τ' J') → a { D with nx := N } τ J) : rSeq a b D τ J := h _ fun _ _ z => z
end Ov
set_option Elab.async false
set_option linter.all false
set_option maxRecDepth 100000
namespace Ov
open PySem PySem.Spec PyProof.Rows
open L2 (V HO Hp Inv Cx VK XK TE TT TA TS TG TGs TI TO TSet Ends Vis Loc Gl Rd RelV Vals OpR UnR CallR IxR SlR MtR PSet R2 upd upd_same upd_ne SqL SqT Sp CXT It Same PlainIx Room Passes Cls NoAttr Meth Mk Binds FnOk Fun FnScope atI TyOf putF)
theorem reps_strs_eq {K : PySem.W.Frag} {J : Hq} {H : Hp} : ∀ {ns : List Str} {vs : List V}, RepVs K J H (ns.map PV.str) vs → vs = ns.map V.str
  | [], _, h => h
  | n :: ns, _, ⟨v, us, e, h, k⟩ => by subst e; cases h; rw [reps_strs_eq k]; rfl
section
variable {X : Cx} {G : G2}
end
end Ov
set_option Elab.async false
set_option linter.all false
set_option maxRecDepth 100000
namespace L2
open PySem PySem.Spec PyProof.Rows
section
variable {X : Cx} {tg : Expr}
end
end L2
namespace Ov
open PySem PySem.Spec PyProof.Rows
open L2 (V HO Hp Inv Cx VK XK TE TT TA TS TG TGs TI TO TSet Ends Vis Loc Gl Rd RelV Vals OpR UnR CallR IxR SlR MtR PSet R2 upd upd_same upd_ne SqL SqT Sp CXT It Same PlainIx Room Passes Cls NoAttr Meth Mk Binds FnOk Fun FnScope atI TyOf putF)
section
variable {X : Cx} {G : G2} {tg : Expr}
theorem ls_rep {K : PySem.W.Frag} {J : Hq} {H : Hp} {y : PV} {u : V} {xs : List PV} (h : lsQ J y = some xs) (r : RepV K J H y u) (rr : Rep K J H) : ∃ p vs, u = .ref p ∧ SqL K H p vs ∧ RepVs K J H xs vs := by
  rcases ls_cases h with rfl | ⟨a, rfl, ha⟩
  · obtain ⟨a, vs, rfl, h1, h2⟩ := r; exact ⟨a, vs, rfl, h1.sq, h2⟩
  · cases r
    obtain ⟨vs, h1, h2⟩ := rr _ _ ha
    exact ⟨a, vs, rfl, SqL.of h1, h2⟩
theorem RepVs.flat {K : PySem.W.Frag} {J : Hq} {H : Hp} {xs : List PV} {vs : List V} (r : RepVs K J H xs vs) : ∀ k : Nat, RepVs K J H (List.replicate k xs).flatten (List.replicate k vs).flatten
  | 0 => rfl
  | k + 1 => by rw [List.replicate_succ, List.replicate_succ, List.flatten_cons, List.flatten_cons]; exact r.append (RepVs.flat r k)
def qTuple : RLr := fun xs J Q => ∃ x ys, xs = [x] ∧ lsQ J x = some ys ∧ Q (.tup ys) J
theorem cq_tuple : CaL X (.type "tuple") qTuple := ⟨_, L2.call_tuple_of, fun J H xs vs Q2 Q rs r ⟨x, ys, ex, el, q⟩ k => by
  subst ex; obtain ⟨v, us, rfl, rv, e⟩ := rs; cases e
  obtain ⟨a, ws, rfl, h3, h4⟩ := ls_rep el rv r
  refine ⟨a, ws, rfl, .inl ⟨h3, fun p hp => ?_⟩⟩
  have sm := Same.new hp (.tup ws)
  exact k (.tup ys) J (.ref p) _ ⟨p, ws, rfl, SqT.of upd_same, (Ext.same (K := X.K) (J := J) sm).reps h4⟩ (r.same sm) (.same sm) q⟩
end
end Ov
set_option Elab.async false
set_option linter.all false
set_option maxRecDepth 100000
namespace L2
open PySem PySem.Spec PyProof.Rows
section
variable {X : Cx}
def tFmt (te : TE) : TE := fun σ H Q => te σ H fun v H1 => (∃ i, v = .int i ∧ i.natAbs.log2 < 1920 ∧ Q (.str (toString i)) H1) ∨ ∃ x, v = .str x ∧ x.length ≤ sizeLine ∧ Q (.str x) H1
theorem pe_fmt {e : Expr} {te : TE} {pos : Pos} (he : PE X e te) : PE X (.FormattedValue e (-1) none pos) (tFmt te) := by
  intro pins s σ H Q I h
  refine FormattedValue_plain (thn (he pins s σ H _ I h) fun v s1 ⟨x, H1, I1, r1, q1⟩ => ?_)
  rcases q1 with ⟨i, rfl, hi, q⟩ | ⟨y, rfl, hy, q⟩
  · obtain ⟨t, rfl⟩ := r1
    exact formatField_int_small hi ⟨.str _, H1, I1.tok _, ⟨_, rfl⟩, q⟩
  · obtain ⟨t, rfl⟩ := r1
    exact formatField_str (fun t' tk => ⟨.str _, H1, I1.tok _, ⟨_, rfl⟩, q⟩) hy
abbrev TJ := Str → TE
def PJ (X : Cx) (es : List Expr) (t : TJ) : Prop :=
  ∀ (out : Str) (pins : List (Addr × Obj)) (s : Shared) (σ : St) (H : Hp) (Q : VK), Inv X pins σ H s → t out σ H Q → wpAny (model X.prog X.w) X.A (joinParts out (evalEach es X.env)) (EP X pins σ Q) X.xe s
def jNil : TJ := fun out σ H Q => out.length ≤ sizeLine ∧ Q (.str out) H
def jCons (te : TE) (tj : TJ) : TJ := fun out σ H Q => te σ H fun v H1 => ∃ y, v = .str y ∧ (out ++ y).length ≤ sizeLine ∧ tj (out ++ y) σ H1 Q
theorem pj_nil : PJ X [] jNil := fun out pins s σ H Q I ⟨hl, q⟩ => joinParts_nil ⟨.str _, H, I.tok _, ⟨_, rfl⟩, q⟩ hl
theorem pj_cons {e : Expr} {es : List Expr} {te : TE} {tj : TJ} (he : PE X e te) (hs : PJ X es tj) (ee : evalEach (e :: es) X.env = eval e X.env :: evalEach es X.env := by rfl) : PJ X (e :: es) (jCons te tj) := by
  intro out pins s σ H Q I h
  rw [ee]
  refine joinParts_cons (thn (he pins s σ H _ I h) fun v s1 ⟨x, H1, I1, r1, q1⟩ => ?_)
  obtain ⟨y, rfl, hl, q⟩ := q1
  obtain ⟨t, rfl⟩ := r1
  exact ⟨hl, hs _ pins s1 σ H1 Q I1 q⟩
theorem pe_joined {e1 e2 : Expr} {es : List Expr} {t : TJ} {pos : Pos} (h : PJ X (e1 :: e2 :: es) t) (ee : evalEach (e1 :: e2 :: es) X.env = eval e1 X.env :: eval e2 X.env :: evalEach es X.env := by rfl) : PE X (.JoinedStr (e1 :: e2 :: es) pos) (t Str.empty) := by
  intro pins s σ H Q I q
  refine JoinedStr_many ?_
  rw [← ee]
  exact h Str.empty pins s σ H Q I q
theorem call_str_str : CallR X (.type "str") (fun xs H Q => ∃ x, xs = [.str x] ∧ Q (.str x) H) := by
  intro pins s σ H xs us Q I r h
  obtain ⟨x, rfl, q⟩ := h
  obtain ⟨u, rfl, t, rfl⟩ := vals1 r
  exact PySem.P.str_of_str ⟨.str _, H, I, ⟨_, rfl⟩, q⟩
end
end L2
namespace Ov
open PySem PySem.Spec PyProof.Rows
open L2 (V HO Hp Inv Cx VK XK TE TT TA TS TG TGs TI TO TSet Ends Vis Loc Gl Rd RelV Vals OpR UnR CallR IxR SlR MtR PSet R2 upd upd_same upd_ne SqL SqT Sp CXT It Same PlainIx Room Passes Cls NoAttr Meth Mk Binds FnOk Fun FnScope atI TyOf putF TJ)
section
variable {X : Cx} {G : G2}
def qStr : RLr := fun xs J Q => (∃ i : Int, xs = [.int i] ∧ i.natAbs.log2 < 1920 ∧ Q (.str (toString i)) J) ∨ ∃ x, xs = [.str x] ∧ Q (.str x) J
theorem cq_str : CaL X (.type "str") qStr := ⟨_, L2.call_str_int.or L2.call_str_str, fun J H xs vs Q2 Q rs r h k => by
  rcases h with ⟨i, ex, hi, q⟩ | ⟨x, ex, q⟩
  · subst ex; obtain ⟨v, us, rfl, rv, e⟩ := rs; cases e; cases rv
    exact .inl ⟨i, rfl, hi, k (.str _) J _ H rfl r .refl q⟩
  · subst ex; obtain ⟨v, us, rfl, rv, e⟩ := rs; cases e; cases rv
    exact .inr ⟨x, rfl, k (.str _) J _ H rfl r .refl q⟩⟩
def qAddS : R2r := fun x y J Q => ∃ i j : Str, x = .str i ∧ y = .str j ∧ i.length + j.length ≤ sizeLine ∧ Q (.str (i ++ j)) J
theorem oq_addS : OpL X (binaryOp .Add) qAddS := ⟨_, L2.op_add_str, fun J H x y v w Q2 Q rx ry r ⟨i, j, ex, ey, hl, q⟩ k => by
  subst ex ey; cases rx; cases ry; exact ⟨i, j, rfl, rfl, hl, k (.str _) J _ H rfl r .refl q⟩⟩
def qJoin : RMr := fun x xs J Q => ∃ z y ys, x = .str z ∧ xs = [y] ∧ lsQ J y = some (ys.map .str) ∧ (ys.map (·.length)).sum + ys.length * z.length ≤ 16777216 ∧ Q (.str (Txt.join z ys)) J
theorem mq_join : MtL X "str" "str.join" qJoin := ⟨_, mt_join, fun J H x xs v vs Q2 Q rx rs r ⟨z, y, ys, ex, exs, hy, hl, q⟩ k => by
  subst ex exs; cases rx; obtain ⟨w, us, rfl, rw', e⟩ := rs; cases e
  obtain ⟨a, ws, rfl, h1, h2⟩ := ls_rep hy rw' r
  cases reps_strs_eq h2
  exact ⟨z, a, ys, rfl, rfl, h1, hl, k (.str _) J _ H rfl r .refl q⟩⟩
def rFmt (te : TEr) : TEr := fun τ J Q => te τ J fun x J1 => (∃ i : Int, x = .int i ∧ i.natAbs.log2 < 1920 ∧ Q (.str (toString i)) J1) ∨ ∃ s : Str, x = .str s ∧ s.length ≤ sizeLine ∧ Q (.str s) J1
theorem re_fmt {e : Expr} {te : TEr} {pos : Pos} (he : RE X G e te) : RE X G (.FormattedValue e (-1) none pos) (rFmt te) := ⟨peW (L2.pe_fmt he.run) fun σ H Q ⟨τ, J, Q2, a2, h, k⟩ => ⟨τ, J, _, a2, h, fun x J1 v H1 rx r1 e1 q1 => by
  rcases q1 with ⟨i, ex, hi, q⟩ | ⟨y, ex, hy, q⟩
  · subst ex; cases rx; exact .inl ⟨i, rfl, hi, k (.str _) J1 _ H1 rfl r1 e1 q⟩
  · subst ex; cases rx; exact .inr ⟨y, rfl, hy, k (.str _) J1 _ H1 rfl r1 e1 q⟩⟩⟩
abbrev TJr := Str → TEr
structure RJ (X : Cx) (G : G2) (es : List Expr) (t : TJr) : Prop where
  run : L2.PJ X es fun out => LE X.K G (t out)
def rjNil : TJr := fun out _ J Q => out.length ≤ sizeLine ∧ Q (.str out) J
def rjCons (te : TEr) (tj : TJr) : TJr := fun out τ J Q => te τ J fun x J1 => ∃ y : Str, x = .str y ∧ (out ++ y).length ≤ sizeLine ∧ tj (out ++ y) τ J1 Q
theorem pjW {X : Cx} {es : List Expr} {t t' : TJ} (h : L2.PJ X es t) (k : ∀ out σ H Q, t' out σ H Q → t out σ H Q) : L2.PJ X es t' := fun out pins s σ H Q I q => h out pins s σ H Q I (k _ _ _ _ q)
theorem rj_nil : RJ X G [] rjNil := ⟨pjW L2.pj_nil fun out σ H Q ⟨τ, J, Q2, a2, ⟨hl, q⟩, k⟩ => ⟨hl, k (.str out) J _ H rfl a2.hp .refl q⟩⟩
theorem rj_cons {e : Expr} {es : List Expr} {te : TEr} {tj : TJr} (he : RE X G e te) (hs : RJ X G es tj) (ee : evalEach (e :: es) X.env = eval e X.env :: evalEach es X.env := by rfl) : RJ X G (e :: es) (rjCons te tj) :=
  ⟨pjW (L2.pj_cons he.run hs.run ee) fun out σ H Q ⟨τ, J, Q2, a2, h, k⟩ => ⟨τ, J, _, a2, h, fun x J1 v H1 rx r1 e1 ⟨y, ex, hl, q⟩ => by
    subst ex; cases rx
    exact ⟨y, rfl, hl, τ, J1, Q2, a2.go r1 e1, q, fun z J2 u H2 rz r2 e2 q2 => k z J2 u H2 rz r2 (e1.trans e2) q2⟩⟩⟩
theorem re_joined {e1 e2 : Expr} {es : List Expr} {t : TJr} {pos : Pos} (h : RJ X G (e1 :: e2 :: es) t) (ee : evalEach (e1 :: e2 :: es) X.env = eval e1 X.env :: eval e2 X.env :: evalEach es X.env := by rfl) : RE X G (.JoinedStr (e1 :: e2 :: es) pos) (t Str.empty) := ⟨L2.pe_joined h.run ee⟩
end
end Ov
set_option Elab.async false
set_option linter.all false
set_option maxRecDepth 100000
namespace L2
open PySem PySem.Spec PyProof.Rows
section
variable {X : Cx} {pins : List (Addr × Obj)} {σ : St} {H : Hp} {s : Shared} {h' : Heap}
end
section
variable {X : Cx}
end
end L2
namespace Ov
open PySem PySem.Spec PyProof.Rows
open L2 (V HO Hp Inv Cx VK XK TE TT TA TS TG TGs TI TO TSet Ends Vis Loc Gl Rd RelV Vals OpR UnR CallR IxR SlR MtR PSet R2 upd upd_same upd_ne SqL SqT Sp CXT It Same PlainIx Room Passes Cls NoAttr Meth Mk Binds FnOk Fun FnScope atI TyOf putF)
section
variable {X : Cx} {G : G2}
end
end Ov
set_option Elab.async false
set_option linter.all false
set_option maxRecDepth 100000
namespace L2
open PySem PySem.Spec PyProof.Rows
section
variable {α β : Type}
def vaL (kvs : List (Str × α)) (k : Str) : Option α := (kvs.find? fun kv => decide (kv.1 = k)).map (·.2)
def puL (kvs : List (Str × α)) (k : Str) (v : α) : List (Str × α) := if kvs.any (fun kv => decide (kv.1 = k)) then kvs.map (fun kv => if kv.1 = k then (kv.1, v) else kv) else kvs ++ [(k, v)]
def drL (kvs : List (Str × α)) (k : Str) : List (Str × α) := kvs.filter fun kv => decide (kv.1 ≠ k)
abbrev PrK (R : α → β → Prop) : List (Str × α) → List (Str × β) → Prop := Paired fun p q => p.1 = q.1 ∧ R p.2 q.2
variable {R : α → β → Prop}
theorem PrK.any {kvs : List (Str × α)} {vs : List (Str × β)} (h : PrK R kvs vs) (k : Str) : (kvs.any fun kv => decide (kv.1 = k)) = vs.any fun kv => decide (kv.1 = k) := by
  induction h with
  | nil => rfl
  | cons r _ ih => rw [List.any_cons, List.any_cons, ih, r.1]
theorem PrK.snoc {kvs : List (Str × α)} {vs : List (Str × β)} (h : PrK R kvs vs) {k : Str} {x : α} {y : β} (r : R x y) : PrK R (kvs ++ [(k, x)]) (vs ++ [(k, y)]) := by
  induction h with
  | nil => exact .cons ⟨rfl, r⟩ .nil
  | cons q _ ih => exact .cons q ih
theorem PrK.pu {kvs : List (Str × α)} {vs : List (Str × β)} (h : PrK R kvs vs) {k : Str} {x : α} {y : β} (r : R x y) : PrK R (puL kvs k x) (puL vs k y) := by
  unfold puL
  rw [h.any k]
  split
  · rename_i hany; clear hany
    induction h with
    | nil => exact .nil
    | @cons p q kvs vs z _ ih =>
      rw [List.map_cons, List.map_cons]
      refine .cons ?_ ih
      by_cases e : p.1 = k
      · rw [if_pos e, if_pos (z.1 ▸ e)]; exact ⟨z.1, r⟩
      · rw [if_neg e, if_neg (z.1 ▸ e)]; exact z
  · exact h.snoc r
theorem PrK.len {kvs : List (Str × α)} {vs : List (Str × β)} (h : PrK R kvs vs) : kvs.length = vs.length := Paired.length h
end
section
variable {X : Cx} {pins : List (Addr × Obj)} {σ : St} {H : Hp} {s : Shared} {a : Addr} {A : Around} {E : Value → Shared → Prop} {kvs : List (Str × V)} {ep : Nat}
end
section
variable {X : Cx}
end
end L2
namespace Ov
open PySem PySem.Spec PyProof.Rows L2
section
variable {prog : Program} {w : World} {A : Around} {R : Result → Shared → Prop} {s : Shared}
end
section
variable {X : Cx}
end
end Ov
set_option Elab.async false
set_option linter.all false
set_option maxRecDepth 100000
namespace Ov
open PySem PySem.Spec PyProof.Rows
open L2 (V HO Hp Inv Cx VK XK TE TT TA TS TG TGs TI TO TSet Ends Vis Loc Gl Rd RelV Vals OpR UnR CallR IxR SlR MtR PSet R2 upd upd_same upd_ne SqL SqT Sp CXT It Same PlainIx Room Passes Cls NoAttr Meth Mk Binds FnOk Fun FnScope atI TyOf putF vaL puL drL PrK)
section
variable {K : PySem.W.Frag} {J : Hq} {H : Hp}
end
section
variable {X : Cx} {G : G2}
variable {kx vx iter cnd : Expr} {x y : Str} {px py : Pos} {sc : Scope} {pos spos : Pos} {wi : TIr} {tk te : TEr} {tc : TTr} {i : Nat}
end
def spLawG (tabs : List Addr) : Spr := fun xs J Q _ => ∃ ns : List Int, xs = [.fl (ns.map .int)] ∧ ns.length ≤ 63 ∧ (∀ T ∈ tabs, J T = some .tab) ∧ (∀ a, a ∉ tabs → J a = none) ∧ ∀ J', (∀ T ∈ tabs, J' T = some .tab) → Q (.bl true) J'
def spLawH (tabs : List Addr) (K : PySem.W.Frag) : Sp := fun vs H Q _ => ∃ (a : Addr) (ns : List Int), vs = [.ref a] ∧ SqL K H a (ns.map V.int) ∧ ns.length ≤ 63 ∧ (∀ T ∈ tabs, H T = some (.ext (TabOk T))) ∧
  (∀ b, H b ≠ none → b = a ∨ b ∈ tabs) ∧ (∀ u, H a = some u → ∃ o xs, u = .frz o (.lst xs)) ∧ ∀ H', Same H H' → Q (.bl true) H'
theorem law_downG {P : Program} {w : World} {K : PySem.W.Frag} {mg : Str → Option Value} {base : Heap} {k : Nat} {f : Addr} {fd : FuncData} {ps : List Str} {tabs : List Addr} (F : FnOk P w K mg base (Fly P w) k f fd ps (LSp K (spLawG tabs))) :
    FnOk P w K mg base L2.CX0 k f fd ps (spLawH tabs K) :=
  F.unfly.imp fun vs H Q E ⟨a, ns, e, hS, hl, hT, hA, hK, q⟩ => by
    subst e
    classical
    have na : ∀ u, H a = some u → a ∉ tabs := fun u hu hm => by
      obtain ⟨o, xs, rfl⟩ := hK u hu
      rw [hT a hm] at hu; cases hu
    refine ⟨[.fl (ns.map .int)], fun b => if b ∈ tabs then some .tab else none, fun x J' => x = .bl true ∧ ∀ T ∈ tabs, J' T = some .tab, fun _ _ => False, ⟨.ref a, [], rfl, ⟨a, ns.map V.int, rfl, ?_, reps_ints ns⟩, rfl⟩, ?_, ⟨ns, rfl, hl, fun T hT => if_pos hT, fun b hb => if_neg hb, fun J' h => ⟨rfl, h⟩⟩, ?_, ?_⟩
    · rcases hS with h | h
      · refine .inl ⟨?_, h⟩
        have : a ∉ tabs := by
          rcases h with h | ⟨o, h⟩
          · exact na _ h
          · exact na _ h
        exact if_neg this
      · exact .inr h
    · intro b o z
      by_cases hb : b ∈ tabs
      · have z' := (if_pos hb).symm.trans z
        cases z'
        exact hT b hb
      · have z' := (if_neg hb).symm.trans z
        cases z'
    · rintro z J' u H' rz rr ee ⟨rfl, ht⟩
      cases rz
      refine q H' fun b o hb => ?_
      rcases hA b (by rw [hb]; simp) with rfl | hm
      · obtain ⟨ob, xs, rfl⟩ := hK o hb
        exact (ee.ll b _ (if_neg (na _ hb)) hb (.inr ⟨_, _, rfl⟩)).2
      · have := hT b hm
        rw [hb] at this; cases this
        exact rr b _ (ht b hm)
    · intro _ _ _ _ _ z; exact z.elim
end Ov
set_option Elab.async false
set_option linter.all false
set_option maxRecDepth 100000
namespace Ov
open PySem
inductive Deed where
  | join (n : Str) (p v : Int)
  | turn (n : Str) (v : Int)
  | leave (n : Str)
  | about
  | watch (m : Str) (ns : List Str)
  | unwatch (m : Str)
  | go (q : Rat)
def spaced (x : Str) (ys : List Str) : Str := ys.foldl (fun acc y => acc ++ (" " : Str) ++ y) x
theorem join_spaced (x : Str) (ys : List Str) : Txt.join (" " : Str) (x :: ys) = spaced x ys := by
  have key : ∀ (ys : List Str) (x : Str), (⟨ys.foldl (fun acc (p : Str) => acc ++ (" " : Str).cps ++ p.cps) x.cps⟩ : Str) = spaced x ys := by
    intro ys
    induction ys with
    | nil => intro x; rfl
    | cons y ys ih => intro x; exact ih (x ++ (" " : Str) ++ y)
  exact key ys x
theorem spaced_snoc (x : Str) (ys : List Str) (y : Str) : spaced x (ys ++ [y]) = spaced x ys ++ (" " : Str) ++ y := by
  unfold spaced; rw [List.foldl_append]; rfl
theorem app_len (a b : Str) : (a ++ b).length = a.length + b.length := by
  show (a.cps ++ b.cps).size = _
  rw [Array.size_append]; rfl
theorem sp_len : (" " : Str).length = 1 := by decide +kernel
theorem spaced_len {x : Str} {ys : List Str} {n : Nat} (hx : x.length ≤ n) (hy : ∀ y ∈ ys, y.length ≤ n) : (spaced x ys).length ≤ n + ys.length * (n + 1) := by
  induction ys generalizing x with
  | nil => simpa [spaced] using hx
  | cons y ys ih =>
    have key : ∀ (zs : List Str) (x : Str), (∀ y ∈ zs, y.length ≤ n) → (spaced x zs).length ≤ x.length + zs.length * (n + 1) := by
      intro zs
      induction zs with
      | nil => intro x _; simp [spaced]
      | cons z zs ih =>
        intro x hz
        have h1 := ih (x ++ (" " : Str) ++ z) (fun y h => hz y (List.mem_cons_of_mem _ h))
        have h2 := hz z List.mem_cons_self
        rw [app_len, app_len, sp_len] at h1
        show (spaced (x ++ (" " : Str) ++ z) zs).length ≤ _
        rw [List.length_cons, Nat.succ_mul]
        omega
    have := key (y :: ys) x hy
    omega
def txt (i : Int) : Str := Str.ofString (toString i)
theorem txt_len {i : Int} (h : i.natAbs < 10 ^ 13) : (txt i).length ≤ 30 := by
  have e := int_text_length_le10 (k := 13) (by decide) h
  unfold txt
  rw [ofString_length]; omega
theorem log_of {i : Int} (h : i.natAbs < 10 ^ 13) : i.natAbs.log2 < 1920 := by
  by_cases e : i.natAbs = 0
  · rw [e]; decide
  · exact (Nat.log2_lt e).mpr (Nat.lt_of_lt_of_le h (by
      have : (10 : Nat) ^ 13 ≤ 2 ^ 44 := by decide
      exact Nat.le_trans this (Nat.pow_le_pow_right (by decide) (by decide))))
def Deed.head : Deed → Str
  | .join .. => "join" | .turn .. => "turn" | .leave .. => "leave" | .about => "about" | .watch .. => "watch" | .unwatch .. => "unwatch" | .go .. => "go"
def Deed.rest : Deed → List Str
  | .join n p v => [n, txt p, txt v]
  | .turn n v => [n, txt v]
  | .leave n => [n]
  | .about => []
  | .watch m ns => m :: ns
  | .unwatch m => [m]
  | .go _ => []
def Deed.line : Deed → Str
  | .go q => ("go " : Str) ++ txt q.num ++ ("/" : Str) ++ txt q.den
  | d => spaced d.head d.rest
structure Deed.Ok (d : Deed) : Prop where
  ws : ∀ y ∈ d.rest, y.length ≤ 30
  len : d.rest.length ≤ 20
  nums : match d with
    | .join _ p v => p.natAbs < 10 ^ 13 ∧ v.natAbs < 10 ^ 13
    | .turn _ v => v.natAbs < 10 ^ 13
    | .go q => q.num.natAbs < 10 ^ 13 ∧ q.den < 10 ^ 13
    | _ => True
end Ov
set_option Elab.async false
set_option linter.all false
set_option maxRecDepth 100000
namespace L2
open PySem PySem.Spec PyProof.Rows PySem.Builtin PySem.Builtin.Str
section
variable {X : Cx}
theorem sl_str : SlR X (fun x lo hi H Q => ∃ y, x = .str y ∧ y.length ≤ sizeLine ∧ Q (.str (Txt.slice y lo hi)) H) := by
  intro pins s σ H x v vl vu lo hi sl Q I rx hs pl pu h
  obtain ⟨y, rfl, hy, q⟩ := h
  obtain ⟨t, rfl⟩ := rx
  have go : ∀ l u : Option (Int × Tok), vl = partValue l → vu = partValue u → lo = l.map (·.1) → hi = u.map (·.1) → wpAny (model X.prog X.w) X.A (getItem (.str y t) (.ref sl)) (EP X pins σ Q) X.xe s := fun l u e1 e2 e3 e4 => by
    subst e3 e4
    refine wpAny_getItem_str_slice (l := l) (u := u) (st := none) (by obtain ⟨o, h1, h2, h3⟩ := hs; exact ⟨o, h1, h2, by rw [h3, e1, e2]; rfl⟩) rfl (post_val_or_str ⟨Nat.le_trans (Txt.slice_le y _ _) hy, fun t' k => ?_⟩)
    exact ⟨.str _, H, I.tok _, ⟨_, rfl⟩, q⟩
  refine ⟨"str", _, F.slot_str_getitem.lookup, typeIs_str _ _ _, ?_⟩
  cases pl with
  | none => cases pu with
    | none => exact go none none rfl rfl rfl rfl
    | int j tj => exact go none (some (j, tj)) rfl rfl rfl rfl
  | int i ti => cases pu with
    | none => exact go (some (i, ti)) none rfl rfl rfl rfl
    | int j tj => exact go (some (i, ti)) (some (j, tj)) rfl rfl rfl rfl
theorem split_len (x y : Str) : (Txt.split x y).length ≤ x.length + 2 := by
  unfold Txt.split
  split
  · simp
  · split
    · simp
    · have e1 := StrLaws.occ_length_le x y 0 x.length (x.length + 1)
      rw [length_partsBetween]; omega
theorem vals_strs : ∀ l : List (Str × Tok), Vals ((l.map (·.1)).map V.str) (strValues l)
  | [] => .nil
  | p :: r => .cons ⟨p.2, rfl⟩ (vals_strs r)
theorem mt_split : MtR X "str.split" (fun x vs H Q => ∃ y z, x = .str y ∧ vs = [.str z] ∧ (z.length == 0) = false ∧ y.length + 2 ≤ sizeLine ∧ ∀ p, H p = none → Q (.ref p) (upd H p (.lst ((Txt.split y z).map V.str)))) := by
  intro pins s σ H x vs v us Q I rx rv h
  obtain ⟨y, z, rfl, rfl, hz, hl, q⟩ := h
  obtain ⟨t, rfl⟩ := rx
  obtain ⟨u, rfl, tu, rfl⟩ := vals1 rv
  have fin : ∀ (l : List (Str × Tok)) k, l.map (·.1) = Txt.split y z → EP X pins σ Q (.ref s.heap.objs.size) { s with toks := k, heap := s.heap.push { cls := .type "list", data := .seq (strValues l).toArray } } := fun l k e => by
    refine ⟨.ref _, _, I.laid (t' := k) (o := .lst ((Txt.split y z).map .str)) (fun b ob q => Heap.get?_push_of_some _ q) (Nat.le_refl _) ⟨?_, _, 0, ?_, Heap.get?_push_size _ rfl⟩, rfl, q _ (I.hok.fresh (Nat.le_refl _))⟩
    · rw [List.length_map]; exact Nat.le_trans (split_len y z) hl
    · rw [← e]; exact vals_strs l
  have hn : (partsBetween y (occurrences y z 0 y.length (y.length + 1)) z.length).length ≤ sizeLine := by
    have e1 := StrLaws.occ_length_le y z 0 y.length (y.length + 1)
    rw [length_partsBetween]; omega
  cases h1 : (decide (y.length < z.length) || decide (strKind y < strKind z))
  · cases hf : (occurrences y z 0 y.length (y.length + 1)).isEmpty
    · refine call_meets F.slot_str_split (typeIs_str _ _ _) F.entry_str_split (F.args_str_split_2 _ _) (meets_str_split_sep y z t tu h1 hz hf (by omega) hn) ?_
      show wants _ _ _ { s with toks := _, heap := s.heap.push { cls := .type "list", data := .seq (strsFrom s.toks (partsBetween y (occurrences y z 0 y.length (y.length + 1)) z.length)).toArray } }
      rw [strsFrom_eq]
      exact fin (numbered s.toks _) _ ((numbered_texts _ _).trans ((if_neg (ne_true_of_eq_false h1)).trans (if_neg (ne_true_of_eq_false hf))).symm)
    · exact call_meets F.slot_str_split (typeIs_str _ _ _) F.entry_str_split (F.args_str_split_2 _ _) (meets_str_split_not_found y z t tu h1 hz hf) (fin [(y, t)] s.toks ((if_neg (ne_true_of_eq_false h1)).trans (if_pos hf)).symm)
  · exact call_meets F.slot_str_split (typeIs_str _ _ _) F.entry_str_split (F.args_str_split_2 _ _) (meets_str_split_cannot_occur y z t tu h1) (fin [(y, t)] s.toks (if_pos h1).symm)
theorem mt_starts : MtR X "str.startswith" (fun x vs H Q => ∃ y z, x = .str y ∧ vs = [.str z] ∧ Q (.bl (Txt.startswith y z)) H) := by
  intro pins s σ H x vs v us Q I rx rv h
  obtain ⟨y, z, rfl, rfl, q⟩ := h
  obtain ⟨t, rfl⟩ := rx
  obtain ⟨u, rfl, tu, rfl⟩ := vals1 rv
  exact SC.startswith ⟨.bl _, H, I, rfl, q⟩
theorem call_intS : CallR X (.type "int") (fun xs H Q => ∃ y n, xs = [.str y] ∧ PySem.intText? y = some n ∧ y.length ≤ 640 ∧ Q (.int n) H) := by
  intro pins s σ H xs us Q I r h
  obtain ⟨y, n, rfl, hn, hl, q⟩ := h
  obtain ⟨u, rfl, t, rfl⟩ := vals1 r
  exact PySem.W.KIN.call_text hn hl ⟨.int n, H, I.tok _, ⟨_, rfl⟩, q⟩
end
end L2
namespace Ov
open PySem PySem.Spec PyProof.Rows
open L2 (V HO Hp Inv Cx VK XK TE TT TA TS TG TGs TI TO TSet Ends Vis Loc Gl Rd RelV Vals OpR UnR CallR IxR SlR MtR PSet R2 upd upd_same upd_ne SqL SqT Sp CXT It Same PlainIx Room Passes Cls NoAttr Meth Mk Binds FnOk Fun FnScope atI TyOf putF)
section
variable {X : Cx} {G : G2}
def qSlS : RSlr := fun x lo hi J Q => onT x fun y => y.length ≤ sizeLine ∧ Q (.str (Txt.slice y lo hi)) J
theorem sq_str : SlL X qSlS := ⟨_, L2.sl_str, fun J H x lo hi v Q2 Q rx r h k => by
  obtain ⟨y, ex, hl, q⟩ := onT_ex h
  subst ex; cases rx
  exact ⟨y, rfl, hl, k (.str _) J _ H rfl r .refl q⟩⟩
def qLenS : RLr := fun xs J Q => on1 xs fun x => onT x fun y => y.length ≤ sizeLine ∧ Q (.int y.length) J
theorem cq_lenS : CaL X (.builtin "len") qLenS := ⟨_, L2.call_len_str, fun J H xs vs Q2 Q rs r h k => by
  obtain ⟨x, ex, h⟩ := on1_ex h; obtain ⟨y, ey, hl, q⟩ := onT_ex h
  subst ex ey; obtain ⟨v, us, rfl, rv, e⟩ := rs; cases e; cases rv
  exact ⟨y, rfl, hl, k (.int _) J _ H rfl r .refl q⟩⟩
def qSplit : RMr := fun x xs J Q => onT x fun y => on1 xs fun w => onT w fun z => (z.length == 0) = false ∧ y.length + 2 ≤ sizeLine ∧ Q (.fl ((Txt.split y z).map .str)) J
theorem mq_split : MtL X "str" "str.split" qSplit := ⟨_, L2.mt_split, fun J H x xs v vs Q2 Q rx rs r h k => by
  obtain ⟨y, ex, h⟩ := onT_ex h; obtain ⟨w, exs, h⟩ := on1_ex h; obtain ⟨z, ez, hz, hl, q⟩ := onT_ex h
  subst ex exs ez; cases rx; obtain ⟨w, us, rfl, rw', e⟩ := rs; cases e; cases rw'
  refine ⟨y, z, rfl, rfl, hz, hl, fun p hp => ?_⟩
  have rs : RepVs X.K J H ((Txt.split y z).map PV.str) ((Txt.split y z).map V.str) := by
    generalize Txt.split y z = l
    induction l with
    | nil => rfl
    | cons a l ih => exact ⟨_, _, rfl, rfl, ih⟩
  obtain ⟨x1, x2, x3⟩ := new_fl r rs hp
  exact k _ J _ _ x1 x2 x3 q⟩
def qStarts : RMr := fun x xs J Q => onT x fun y => on1 xs fun w => onT w fun z => Q (.bl (Txt.startswith y z)) J
theorem mq_startswith : MtL X "str" "str.startswith" qStarts := ⟨_, L2.mt_starts, fun J H x xs v vs Q2 Q rx rs r h k => by
  obtain ⟨y, ex, h⟩ := onT_ex h; obtain ⟨w, exs, h⟩ := on1_ex h; obtain ⟨z, ez, q⟩ := onT_ex h
  subst ex exs ez; cases rx; obtain ⟨w, us, rfl, rw', e⟩ := rs; cases e; cases rw'
  exact ⟨y, z, rfl, rfl, k (.bl _) J _ H rfl r .refl q⟩⟩
def qIntS : RLr := fun xs J Q => on1 xs fun x => onT x fun y => onS (PySem.intText? y) fun n => y.length ≤ 640 ∧ Q (.int n) J
theorem cq_intS : CaL X (.type "int") qIntS := ⟨_, L2.call_intS, fun J H xs vs Q2 Q rs r h k => by
  obtain ⟨x, ex, h⟩ := on1_ex h; obtain ⟨y, ey, h⟩ := onT_ex h; obtain ⟨n, en, hl, q⟩ := onS_ex h
  subst ex ey; obtain ⟨v, us, rfl, rv, e⟩ := rs; cases e; cases rv
  exact ⟨y, n, rfl, en, hl, k (.int _) J _ H rfl r .refl q⟩⟩
def rAllIn (P : Addr) (tx : Str) (ti : TEr) : TEr := fun τ J Q => ti τ J fun x J1 => onT x fun y => J1 P = some .tab ∧ Q (.bl (y.cps.toList.all (signIn tx))) J1
theorem re_allIn {c P : Addr} {x g : Str} {p px p1 p2 p3 gpos cpos : Pos} {iter : Expr} {ti : TEr} {scope : Scope} {tx : Str} {tt : Tok} {k : Nat} (hcalm : X.calm = true) (Bm : BMain X.mg X.base) (hcode : X.env.code = .ref c) (Z : CodeT X.K c P) (hr : Room k X.A)
    (hgl : Gl X "all") (hma : X.mg "all" = none) (hsg : X.mg g = some (.str tx tt)) (hi : RE X G iter ti) (sck : scope.kind = .function := by rfl) (hco : scope.isCoroutine = false := by rfl) (hclos : closureFor scope X.env = pure [] := by rfl) (hcell : ∀ y ∈ scope.names, y.2 ≠ .cell := by decide)
    (h0 : scope.names.lookup (".0" : Str) = some NameKind.local := by rfl) (hx : scope.names.lookup x = some .local := by rfl) (hsc : scope.names.lookup g = some .globalImplicit := by rfl) (hmk : behindInMarks .In (.Name g p2) = false := by with_unfolding_all rfl) (hs : ∀ x, genFold iter X.env x = pure x := by intro _; rfl)
    (hst : starEach [.GeneratorExp (.Compare (.Name x p1) [.In] [.Name g p2] p3) [⟨.Name x px, iter, [], 0⟩] scope gpos] X.env = [(false, eval (.GeneratorExp (.Compare (.Name x p1) [.In] [.Name g p2] p3) [⟨.Name x px, iter, [], 0⟩] scope gpos) X.env)] := by rfl)
    (hdx : (x == ("__debug__" : Str)) = false := by decide) (hdg : (g == ("__debug__" : Str)) = false := by decide) :
    RE X G (.Call (.Name "all" p) [.GeneratorExp (.Compare (.Name x p1) [.In] [.Name g p2] p3) [⟨.Name x px, iter, [], 0⟩] scope gpos] [] cpos) (rAllIn P tx ti) :=
  ⟨peW (pe_allInL hcalm Bm hcode Z (by have := hr.dp; omega) hgl hma hsg hi.run sck hco hclos hcell h0 hx hsc hmk hs hst hdx hdg) fun σ H Q ⟨τ, J, Q2, a2, h, k⟩ => ⟨τ, J, _, a2, h, fun x J1 v H1 rx r1 e1 hh => by
    obtain ⟨y, ex, hP, q⟩ := onT_ex hh
    subst ex; cases rx
    exact ⟨y, rfl, r1 _ _ hP, k (.bl _) J1 _ H1 rfl r1 e1 q⟩⟩⟩
end
section
variable {P : Program} {w : World} {K : PySem.W.Frag} {mg : Str → Option Value} {base : Heap}
theorem okRG {x : Str} {st : Stmt} {T f c : Addr} {fd : FuncData} {N ps : List Str} {k : Nat} {sp : Spr} (F : FunG K mg x st T f fd c) (S : FnScope N ps (L2.defScope st)) (len : ∀ xs J Q E, sp xs J Q E → xs.length = ps.length)
    (hbody : ∀ (A : Around) (outer : List Env) (s : Shared) (H : Hp) (E : XK) (G : G2) (xs : List PV) (J : Hq) (Q : PV → Hq → Prop) (E2 : Addr → Hq → Prop), Room k (A.deeper (envOfC x (L2.defScope st) s.heap.objs.size f (.ref c))) → sp xs J Q E2 →
      Ebd (cxF P w K mg base N x (L2.defScope st) f (.ref c) A outer s H E) G E2 E →
      ∃ t, RB (cxF P w K mg base N x (L2.defScope st) f (.ref c) A outer s H E) G (L2.defBody st) t ∧ t { nx := fun _ J' => Q .non J', rt := Q } (strt N xs) J) : FnOk P w K mg base (Fly P w) (k + 1) f fd ps (LSp K sp) := by
  obtain ⟨oc, od, kV, doc, pm, an, cdv, ct, osl, rfl, lk, hcd⟩ := F.fn.ex
  obtain rfl : cdv = .ref c := F.code
  refine L2.fn_of lk hcd S (fun vs H Q E ⟨xs, J, Q2, E2, a, _, b, _⟩ => by rw [← a.length]; exact len _ _ _ _ b) fun A outer s H vs Q E hr ⟨xs, J, Q2, E2, rs, rr, hs, kn, ke⟩ => ?_
  obtain ⟨t, hb, q⟩ := hbody A outer s H E (J, H) xs J Q2 E2 hr hs ⟨cxF_passes, ke⟩
  refine ⟨_, hb.run, strt N xs, J, _, ⟨strt_rep rs, rr, .refl⟩, q, ?_⟩
  exact { nx := fun τ J' σ H' _ r e q => kn .non J' .non H' rfl r e q, rt := fun x J' v H' rx r e q => kn x J' v H' rx r e q, bk := fun _ _ _ _ _ _ _ q => q.elim, ct := fun _ _ _ _ _ _ _ q => q.elim }
theorem DefG.canR {x : Str} {st : Stmt} {T : Addr} {k : Nat} {ps : List Str} {sp : Spr} (D : DefG K mg x st T)
    (h : ∀ f fd c, FunG K mg x st T f fd c → FnOk P w K mg base (Fly P w) k f fd ps (LSp K sp))
    (hb : ∀ (kV doc pm : Value) (an : Option Addr) (cdv ct : Value) (us : List Value), us.length = ps.length → bindArgs (PySem.W.fnOf x x (L2.defArgs st) (L2.defBody st) (L2.defScope st) .none kV doc pm an cdv ct) ⟨us, []⟩ = pure (ps.zip us)) :
    CanR P w K mg base k x ps sp := by
  obtain ⟨f, fd, c, F⟩ := D
  exact ⟨f, fd, h f fd c F, F.fn.binds hb, F.fn.kp, F.mg⟩
end
end Ov
set_option Elab.async false
set_option linter.all false
set_option maxRecDepth 100000
namespace Ov
open PySem PySem.StrLaws PySem.NumText PyProof.Rows
theorem sign_in (tx : Str) (c : Nat) : signIn tx c = decide (c ∈ tx.cps.toList) := found_one tx c
theorem fig_iff (c : Nat) : signIn "0123456789" c = true ↔ 48 ≤ c ∧ c ≤ 57 := by
  rw [sign_in, show ("0123456789" : Str).cps.toList = [48, 49, 50, 51, 52, 53, 54, 55, 56, 57] by decide +kernel, decide_eq_true_eq]
  simp only [List.mem_cons, List.not_mem_nil, or_false]
  omega
theorem cut_uniq {c : Nat} : ∀ {p q t u : List Nat}, c ∉ p → c ∉ q → (t = [] ∨ ∃ t', t = c :: t') → (u = [] ∨ ∃ u', u = c :: u') → p ++ t = q ++ u → p = q ∧ t = u
  | [], [], _, _, _, _, _, _, e => ⟨rfl, e⟩
  | [], y :: q, t, u, _, hq, ht, _, e => by
    rcases ht with rfl | ⟨t', rfl⟩
    · cases e
    · injection e with e1 _; subst e1; exact absurd List.mem_cons_self hq
  | x :: p, [], t, u, hp, _, _, hu, e => by
    rcases hu with rfl | ⟨t', rfl⟩
    · cases e
    · injection e with e1 _; subst e1; exact absurd List.mem_cons_self hp
  | x :: p, y :: q, t, u, hp, hq, ht, hu, e => by
    injection e with e1 e2
    obtain ⟨h1, h2⟩ := cut_uniq (fun h => hp (List.mem_cons_of_mem _ h)) (fun h => hq (List.mem_cons_of_mem _ h)) ht hu e2
    exact ⟨by rw [e1, h1], h2⟩
def jl (c : Nat) : List (List Nat) → List Nat
  | [] => []
  | [p] => p
  | p :: q :: r => p ++ c :: jl c (q :: r)
theorem jl_cons (c : Nat) (p : List Nat) (r : List (List Nat)) : ∃ t, jl c (p :: r) = p ++ t ∧ ((t = [] ∧ r = []) ∨ ∃ q s, r = q :: s ∧ t = c :: jl c r) := by
  cases r with
  | nil => exact ⟨[], (List.append_nil p).symm, .inl ⟨rfl, rfl⟩⟩
  | cons q s => exact ⟨_, rfl, .inr ⟨q, s, rfl, rfl⟩⟩
theorem jl_inj (c : Nat) : ∀ ps qs : List (List Nat), ps ≠ [] → qs ≠ [] → (∀ p ∈ ps, c ∉ p) → (∀ q ∈ qs, c ∉ q) → jl c ps = jl c qs → ps = qs
  | [], _, h, _, _, _, _ => absurd rfl h
  | _, [], _, h, _, _, _ => absurd rfl h
  | p :: r, q :: s, _, _, hp, hq, e => by
    obtain ⟨t, et, ht⟩ := jl_cons c p r
    obtain ⟨u, eu, hu⟩ := jl_cons c q s
    rw [et, eu] at e
    obtain ⟨e1, e2⟩ := cut_uniq (hp p List.mem_cons_self) (hq q List.mem_cons_self) (ht.imp (fun h => h.1) fun ⟨a, b, _, h⟩ => ⟨_, h⟩) (hu.imp (fun h => h.1) fun ⟨a, b, _, h⟩ => ⟨_, h⟩) e
    rcases ht with ⟨t0, r0⟩ | ⟨a, b, rr, t1⟩ <;> rcases hu with ⟨u0, s0⟩ | ⟨a', b', ss, u1⟩
    · rw [e1, r0, s0]
    · rw [t0, u1] at e2; cases e2
    · rw [t1, u0] at e2; cases e2
    · rw [t1, u1] at e2
      injection e2 with _ e3
      rw [e1, jl_inj c r s (by rw [rr]; simp) (by rw [ss]; simp) (fun x hx => hp x (List.mem_cons_of_mem _ hx)) (fun x hx => hq x (List.mem_cons_of_mem _ hx)) e3]
theorem join_jl (c : Nat) : ∀ ps : List Str, (Str.join ⟨#[c]⟩ ps).cps.toList = jl c (ps.map fun p => p.cps.toList)
  | [] => rfl
  | [p] => rfl
  | p :: q :: r => by
    have ih := join_jl c (q :: r)
    show (p.cps ++ #[c] ++ (Str.join ⟨#[c]⟩ (q :: r)).cps).toList = p.cps.toList ++ c :: jl c ((q :: r).map fun p => p.cps.toList)
    rw [← ih]
    simp
theorem split_ne (x : Str) (c : Nat) : Txt.split x ⟨#[c]⟩ ≠ [] := by
  unfold Txt.split
  split
  · simp
  · split
    · simp
    · rw [partsBetween_eq]
      obtain ⟨p, r, e⟩ := partsFrom_ne x (⟨#[c]⟩ : Str).length 0 (Builtin.Str.occurrences x ⟨#[c]⟩ 0 x.length (x.length + 1))
      rw [e]; simp
theorem map_inj {α β : Type} {f : α → β} (hf : ∀ a b, f a = f b → a = b) : ∀ {xs ys : List α}, xs.map f = ys.map f → xs = ys
  | [], [], _ => rfl
  | [], _ :: _, h => by cases h
  | _ :: _, [], h => by cases h
  | x :: xs, y :: ys, h => by
    rw [List.map_cons, List.map_cons] at h
    injection h with h1 h2
    rw [hf _ _ h1, map_inj hf h2]
theorem str_ext {x y : Str} (h : x.cps.toList = y.cps.toList) : x = y := Str.ext' (Array.toList_inj.mp h)
theorem split_uniq {c : Nat} {x : Str} {ps : List Str} (hne : ps ≠ []) (hf : ∀ p ∈ ps, c ∉ p.cps.toList) (hx : Str.join ⟨#[c]⟩ ps = x) : Txt.split x ⟨#[c]⟩ = ps := by
  have h1 := join_split x ⟨#[c]⟩
  have h2 := split_free x c
  have h3 := split_ne x c
  generalize Txt.split x ⟨#[c]⟩ = qs at h1 h2 h3
  refine map_inj (f := fun p : Str => p.cps.toList) (fun a b => str_ext) (jl_inj c _ _ (by simpa using h3) (by simpa using hne) ?_ ?_ ?_)
  · intro p hp; obtain ⟨s, hs, rfl⟩ := List.mem_map.mp hp; exact h2 s hs
  · intro p hp; obtain ⟨s, hs, rfl⟩ := List.mem_map.mp hp; exact hf s hs
  · rw [← join_jl, ← join_jl, h1, hx]
def nd (m : Nat) : List Nat := (Nat.toDigits 10 m).map Char.toNat
theorem txt_nat (m : Nat) : (txt (m : Int)).cps.toList = nd m := PySem.W.KIN.signs_num m
theorem txt_neg (m : Nat) : (txt (Int.negSucc m)).cps.toList = 45 :: nd (m + 1) := by
  unfold txt
  rw [signs_ofString]
  show ("-" ++ Nat.repr (m + 1)).toList.map Char.toNat = _
  rw [String.toList_append, List.map_append, Nat.toList_repr]
  rfl
theorem nd_digits (m : Nat) : AllDigits (nd m) := by
  have h : ∀ c ∈ nd m, 48 ≤ c ∧ c ≤ 57 := fun c hc => by
    obtain ⟨ch, hch, e⟩ := List.mem_map.mp hc
    have r := digit_range (Nat.isDigit_of_mem_toDigits (by decide) (by decide) hch)
    rw [← e]; exact r
  exact h
theorem nd_ne (m : Nat) : nd m ≠ [] := by
  intro e
  have h := toDigits_len_ge 10 m
  rw [List.map_eq_nil_iff.mp e] at h
  exact absurd h (by decide)
theorem nd_len {m k : Nat} (hk : 1 ≤ k) (h : m < 10 ^ k) : (nd m).length ≤ k := by
  unfold nd; rw [List.length_map]; exact toDigits_len_pow (by decide) hk h
theorem val_lt' : ∀ (cs : List Nat) (acc : Nat), AllDigits cs → cs.foldl (fun acc c => acc * 10 + (c - 48)) acc < (acc + 1) * 10 ^ cs.length
  | [], acc, _ => by simp
  | c :: cs, acc, h => by
    have h1 := val_lt' cs (acc * 10 + (c - 48)) h.tail
    have h2 := h.head
    rw [List.foldl_cons, List.length_cons, Nat.pow_succ]
    refine Nat.lt_of_lt_of_le h1 ?_
    rw [Nat.mul_comm (10 ^ cs.length) 10, ← Nat.mul_assoc]
    exact Nat.mul_le_mul_right _ (by omega)
theorem val_lt {cs : List Nat} (h : AllDigits cs) : digitsVal cs < 10 ^ cs.length := by
  have := val_lt' cs 0 h; simpa [digitsVal] using this
theorem len_list (x : Str) : x.cps.toList.length = x.length := Array.length_toList
def figsOf (y : Str) : Str := if Txt.startswith y "-" = true then Txt.slice y (some 1) none else y
theorem minus_is : ("-" : Str) = ⟨#[45]⟩ := by decide +kernel
theorem starts_iff (y : Str) : Txt.startswith y "-" = true ↔ ∃ cs, y.cps.toList = 45 :: cs := by
  rw [minus_is]
  have h := subAt_one y 45 0
  unfold Txt.startswith
  rw [Bool.and_eq_true, decide_eq_true_eq, h]
  cases y.cps.toList with
  | nil => simp
  | cons a l => simp
theorem slice_tail {y : Str} {c : Nat} {cs : List Nat} (h : y.cps.toList = c :: cs) : (Txt.slice y (some 1) none).cps.toList = cs := by
  have e := sliceText_from (x := y) (i := 1) ⟨by decide, by rw [h]; simp; omega⟩
  show (sliceText y (some 1) none).cps.toList = cs
  rw [e, h]
  simp
theorem figs_neg {y : Str} {cs : List Nat} (h : y.cps.toList = 45 :: cs) : (figsOf y).cps.toList = cs := by
  unfold figsOf; rw [if_pos ((starts_iff y).mpr ⟨cs, h⟩)]; exact slice_tail h
theorem figs_pos {y : Str} (h : ∀ cs, y.cps.toList ≠ 45 :: cs) : figsOf y = y := by
  unfold figsOf; rw [if_neg fun z => ?_]
  obtain ⟨cs, e⟩ := (starts_iff y).mp z; exact h cs e
theorem nd_no45 (m : Nat) (cs : List Nat) : nd m ≠ 45 :: cs := fun e => by
  have := nd_digits m 45 (by rw [e]; simp); omega
def figsOk (y : Str) : Prop := 1 ≤ (figsOf y).length ∧ (figsOf y).length ≤ 12 ∧ (figsOf y).cps.toList.all (signIn "0123456789") = true
theorem all_figs {cs : List Nat} : cs.all (signIn "0123456789") = true ↔ AllDigits cs := by
  rw [List.all_eq_true]; exact forall_congr' fun c => forall_congr' fun _ => fig_iff c
theorem num_yes {n : Int} (h : n.natAbs < 10 ^ 12) : figsOk (txt n) ∧ intText? (txt n) = some n := by
  have fin : ∀ (m : Nat) (y : Str), m < 10 ^ 12 → (figsOf y).cps.toList = nd m → figsOk y := fun m y hm e => by
    have h1 := nd_len (m := m) (k := 12) (by decide) hm
    have h2 := List.length_pos_iff.mpr (nd_ne m)
    rw [← e] at h1 h2
    rw [len_list] at h1 h2
    exact ⟨h2, h1, by rw [e]; exact all_figs.mpr (nd_digits m)⟩
  cases n with
  | ofNat m =>
    have e : (txt (Int.ofNat m)).cps.toList = nd m := txt_nat m
    have hm : m < 10 ^ 12 := h
    refine ⟨fin m _ hm (by rw [figs_pos fun cs => by rw [e]; exact nd_no45 m cs, e]), ?_⟩
    have h1 := nd_len (m := m) (k := 12) (by decide) hm
    rw [← e, len_list] at h1
    rw [intText_digits (by rw [e]; exact nd_digits m) (by rw [e]; exact nd_ne m) (by omega), e]
    show some (((digitsVal (nd m) : Nat) : Int)) = _
    rw [show digitsVal (nd m) = m from PySem.W.KIN.val_back m]; rfl
  | negSucc m =>
    have e := txt_neg m
    have hm : m + 1 < 10 ^ 12 := h
    refine ⟨fin (m + 1) _ hm (figs_neg e), ?_⟩
    have h1 := nd_len (m := m + 1) (k := 12) (by decide) hm
    have h2 := len_list (txt (Int.negSucc m))
    rw [e, List.length_cons] at h2
    rw [intText_neg e (nd_digits _) (nd_ne _) (by omega), show digitsVal (nd (m + 1)) = m + 1 from PySem.W.KIN.val_back (m + 1)]
    rfl
theorem num_some {y : Str} (h : figsOk y) : y.length ≤ 13 ∧ ∃ m : Int, intText? y = some m ∧ m.natAbs < 10 ^ 12 := by
  obtain ⟨h1, h2, h3⟩ := h
  have hd := all_figs.mp h3
  have hb : digitsVal (figsOf y).cps.toList < 10 ^ 12 := Nat.lt_of_lt_of_le (val_lt hd) (Nat.pow_le_pow_right (by decide) (by rw [len_list]; exact h2))
  have hne : (figsOf y).cps.toList ≠ [] := by
    intro e; have := len_list (figsOf y); rw [e] at this; simp at this; omega
  by_cases z : ∃ cs, y.cps.toList = 45 :: cs
  · obtain ⟨cs, e⟩ := z
    have ef := figs_neg e
    rw [ef] at hd hb hne
    have hl := len_list y
    have hl2 := len_list (figsOf y)
    rw [e, List.length_cons] at hl
    rw [ef] at hl2
    refine ⟨by omega, _, intText_neg e hd hne (by omega), ?_⟩
    rw [Int.natAbs_neg]; exact hb
  · have ef := figs_pos (y := y) fun cs e => z ⟨cs, e⟩
    rw [ef] at hd hb hne h2
    exact ⟨by omega, _, intText_digits hd hne (by omega), hb⟩
theorem txt_signs (i : Int) : ∀ c ∈ (txt i).cps.toList, c = 45 ∨ (48 ≤ c ∧ c ≤ 57) := by
  cases i with
  | ofNat m => rw [show (txt (Int.ofNat m)).cps.toList = nd m from txt_nat m]; exact fun c hc => .inr (nd_digits m c hc)
  | negSucc m =>
    rw [txt_neg]
    intro c hc
    rcases List.mem_cons.mp hc with rfl | hc
    · exact .inl rfl
    · exact .inr (nd_digits _ c hc)
theorem txt_inj {a b : Int} (ha : a.natAbs < 10 ^ 12) (h : txt a = txt b) (hb : b.natAbs < 10 ^ 12) : a = b := by
  have h1 := (num_yes ha).2
  have h2 := (num_yes hb).2
  rw [h, h2] at h1
  exact (Option.some.inj h1).symm
def Deed.words : Deed → List Str
  | .go q => [("go" : Str), txt q.num ++ ("/" : Str) ++ txt q.den]
  | d => d.head :: d.rest
theorem join_txt (sep : Str) (ps : List Str) : Txt.join sep ps = Str.join sep ps := glued_eq_join sep ps
theorem app_assoc (a b c : Str) : a ++ b ++ c = a ++ (b ++ c) := by
  show (⟨a.cps ++ b.cps ++ c.cps⟩ : Str) = ⟨a.cps ++ (b.cps ++ c.cps)⟩
  rw [Array.append_assoc]
theorem line_join (d : Deed) : d.line = Str.join (" " : Str) d.words := by
  have hs : ∀ (x : Str) (ys : List Str), spaced x ys = Str.join (" " : Str) (x :: ys) := fun x ys => by rw [← join_spaced, join_txt]
  cases d with
  | go q =>
    show ("go " : Str) ++ txt q.num ++ ("/" : Str) ++ txt q.den = ("go" : Str) ++ (" " : Str) ++ (txt q.num ++ ("/" : Str) ++ txt q.den)
    rw [show ("go " : Str) = ("go" : Str) ++ (" " : Str) by decide +kernel]
    simp only [app_assoc]
  | _ => exact hs _ _
theorem blank_is : (" " : Str) = ⟨#[32]⟩ := by decide +kernel
theorem slash_is : ("/" : Str) = ⟨#[47]⟩ := by decide +kernel
end Ov
set_option Elab.async false
set_option linter.all false
set_option maxRecDepth 100000
set_option maxHeartbeats 4000000
namespace Ov
open PySem PySem.Spec PyProof.Rows L2
def top (i : Nat) : Stmt := PySem.Challenge.pw_overhaul_k52_a_line_read.main.body.getD i (.Pass ⟨0, 0, 0, 0⟩)
set_option compiler.extract_closed false
set_option hygiene false
local macro_rules | `(tactic| simp_arith! [$ls,*]) => `(tactic| simp only [rFor_eq, rTry, gSb, qSetL, rAug, rVar, rC, rOp, rUn, rB, rTru, rAnd, rOr, rNot, rAndV, rOrV, rNotV, rIf, rNil, rCons, rTup, rLst, rFl, rNoPart, rPart, rSl, rCB, rBM, rBM0, rCall, rFld, rMth, rMak, rNext, rDrop, rRet, rRetN, rIfS, gNm, gNi, gCo, gTu, rAsg, rPar, rFldS, putR, rTrue, iLs, iTu, iR1, iR2, rBrk, rCnt, qI0, qI, qU, qLtS, qIs, qIsNot, qIx, qSlT, qSlF, qSlL, qAbs, qLen, qIsi, qCopyF, qCopyL, qMax, qAppend, qPop, qClear, qInsert, qCatF, ix_t, ix_f, ix_r, ls_f, ls_r, len_t, len_f, len_r, ty_n, ty_b', ty_i, ty_s, ty_t, ty_f, ty_r, tru_n, tru_b, tru_i, tru_t, tru_f, tru_r, it_f, it_r, is_n, is_b, is_i, is_s, is_t, is_f, is_r, tq_f, tq_s, tq_r, qEq, cm_int, cm_str, cm_bl, cm_non, cm_fr, pur_int, pur_str, pur_bl, pur_non, pur_fr, eq_int, eq_str, eq_bl, eq_fr, ix_fr0, ix_fr1, ty_fr, len_fr, isN_fr, fr_inj, strt, y_mapc, y_mapn, y_lenc, y_lenn, Nat.reduceAdd, Nat.reduceSub, Nat.reduceLeDiff, y_r0, y_rs, y_appc, y_appn, List.append_nil, y_g0, y_gs, y_s0, y_ss, Option.some.injEq, exists_eq_left', exists_eq_left, exists_and_left, exists_eq, exists_eq', PV.int.injEq, PV.bl.injEq, PV.ref.injEq, PV.str.injEq, PV.ty.injEq, PV.tup.injEq, PV.fl.injEq, HQ.lst.injEq, HQ.ins.injEq, HQ.dct.injEq, decide_eq_true_eq, true_and, and_true, List.cons.injEq, reduceCtorEq, Bool.not_eq_true', decide_eq_false_iff_not, and_assoc, ite_not, if_true, if_false, Bool.false_eq_true, decide_true, decide_false, false_and, and_false, exists_false, false_or, or_false, id, atI_0, atI_1, atI_2, atI_3, atI_4, atI_5, atI_6, atI_7, atI_8, atI_9, atI_10, atI_11, sl3, y_nt, y_nf, y_om, put_same, Bool.and_true, y_ta, Bool.and_false, y_fa, line0, line1, line2, line3, line4, line5, line6, line7, line8, line9, line10, line11, line12, tz_bb, tz_int, tz_bool, tz_str, tz_tup, tz_list, String.reduceEq, y_emc, y_emn, selR, y_og, List.not_mem_nil, exists_const, onS_e, on2_e, onI_e, onB_e, onT_e, onR_e, onU_e, on1_e, onL_e, onD_e, onC_e, onN_e, onCo_e, onP_e, onY_e, $ls,*])
local macro_rules | `(tactic| simp_all! [$ls,*]) => `(tactic| repeat (first | (with_reducible refine hNq _ _ ?_; clear hNq Nq) | with_reducible refine seq_hd fun Nq hNq => ?_ | simp_arith! [$ls,*]))
section
variable {P : Program} {w : World} {K : PySem.W.Frag} {mg : Str → Option Value} {base : Heap}
abbrev s_shared : Stmt := (top 4)
abbrev ps_shared : List Str := ["one", "two"]
theorem sc_shared : L2.FnScope ["one", "two"] ["one", "two"] (L2.defScope s_shared) := fsc
def spShared : Sp := fun vs H Q _ => ∃ a b : Int, vs = [.int a, .int b] ∧ Q (.int (Int.gcd a b : Nat)) H
theorem ok_shared {f : Addr} {fd : FuncData} (F : Fun K "shared" "shared" s_shared f fd) (Z : Blt mg) : FnOk P w K mg base CX0 1 f fd ps_shared spShared := by
  refine F.ok sc_shared (fun vs H Q E h => ?_) (fun cdv A outer s H vs Q E hr h => ?_)
  · obtain ⟨a, b, rfl, _⟩ := h
    rfl
  obtain ⟨a, b, rfl, q⟩ := h
  refine ⟨_, (QB.run (pss_cons (ps_par (i := 0) (j := 1) rfl sc_shared.nd rfl rfl (by decide) rfl rfl (pa_cons (pe_callB call_abs rfl Z.abs boot_abs (pa_cons (pv 0) pa_nil)) (pa_cons (pe_callB call_abs rfl Z.abs boot_abs (pa_cons (pv 1) pa_nil)) pa_nil)) rfl)
      (pss_cons (ps_while PassesOwn.never (pt_cmpR op_ne (pv 1) pe_int (nomark _)) (pss_one (ps_par (i := 0) (j := 1) rfl sc_shared.nd rfl rfl (by decide) rfl rfl (pa_cons (pv 1) (pa_cons (pe_op op_mod (pv 0) (pv 1)) pa_nil)) rfl)))
      (pss_one (ps_ret (pv 0)))))), ?_⟩
  refine ⟨_, rfl, a, rfl, _, rfl, b, rfl, _, _, rfl, ?_⟩
  refine while_by (fun σ H' => ∃ x y : Int, σ = [some (.int x), some (.int y)] ∧ H = H' ∧ 0 ≤ x ∧ 0 ≤ y ∧ Int.gcd x y = Int.gcd a b) (fun σ _ => match σ with | [_, some (.int y)] => y.toNat | _ => 0)
    ⟨_, _, rfl, rfl, by split <;> omega, by split <;> omega, gcd_abs a b⟩ ?_ (fun σ H Q Q' m h => ?_)
  · rintro σ H' ⟨x, y, rfl, rfl, hx, hy, hg⟩
    simp only [tSeq, tNext, tAsg, gName, tRet, tRetN, tIfS, tTest, tOp, tUn, tVar, tC, rI, rI0, rU, rEq, rNe, scal_ii, scal_bb, scal_ss, Int.reduceLT, tPar, tCons, tNil, tCB, tCall, tTup, tLst, tNot, tNotV, tAndV, tOrV, tAnd, tOr, tB, tIf, tDrop, tBM, rAppend, gTup, gCons, gNil, iList, iRng1, iRng2, rIxL, rIxT, rIxLH, rIxTH, rT2, atI_0, atI_1, atI_2, atI_3, HO.lst.injEq, HO.tup.injEq, List.set_cons_zero, List.set_cons_succ, List.getElem?_cons_zero, List.getElem?_cons_succ, Option.some.injEq, exists_eq_left', exists_eq_left, exists_and_left, exists_eq, exists_eq', V.int.injEq, V.bl.injEq, V.ref.injEq, V.str.injEq, V.ty.injEq, decide_eq_true_eq, true_and, and_true, List.cons.injEq, List.append_nil, List.cons_append, List.nil_append, reduceCtorEq, Bool.not_eq_true', decide_eq_false_iff_not, and_assoc, ite_not, if_true, if_false, Bool.false_eq_true, decide_true, decide_false, L2.start, List.map_cons, List.map_nil, List.length_cons, List.length_nil, Nat.reduceAdd, Nat.reduceSub, List.replicate, cxOf, Cx.nox, Cx.wish, false_and, and_false, exists_false, false_or, or_false, id, selC, Option.getD_some, rIxS, tSl, tPart, tNoPart, rSlL, tLCs, gSub, rSetL, rJoin]
    split
    · rename_i hy0
      subst hy0
      rw [← hg, gcd_end hx] at q
      exact q
    · rename_i hy0
      have h1 := Int.emod_lt_of_pos x (show 0 < y by omega)
      have h2 := Int.emod_nonneg x hy0
      exact ⟨by omega, hy, h2, (gcd_step hy0).trans hg, by omega⟩
  · obtain ⟨v, e, hs, k, ek, hq⟩ := h
    exact ⟨v, e, hs, k, ek, m _ _ hq⟩
def Dig : List Int → List Int → Prop
  | [], [] => True
  | d :: ds, s :: ss => (0 ≤ d ∧ d < s) ∧ Dig ds ss
  | _, _ => False
theorem Dig.snoc : ∀ {ds ss : List Int} {d s : Int}, Dig ds ss → 0 ≤ d → d < s → Dig (ds ++ [d]) (ss ++ [s])
  | [], [], _, _, _, h0, h1 => ⟨⟨h0, h1⟩, trivial⟩
  | _ :: _, _ :: _, _, _, h, h0, h1 => ⟨h.1, Dig.snoc h.2 h0 h1⟩
  | [], _ :: _, _, _, h, _, _ => h.elim
  | _ :: _, [], _, _, h, _, _ => h.elim
theorem Dig.cons : ∀ {ds ss : List Int} {s : Int}, Dig ds (s :: ss) → ∃ d r, ds = d :: r ∧ 0 ≤ d ∧ d < s ∧ Dig r ss
  | [], _, _, h => h.elim
  | d :: r, _, _, h => ⟨d, r, rfl, h.1.1, h.1.2, h.2⟩
theorem Dig.nil : ∀ {ds : List Int}, Dig ds [] → ds = []
  | [], _ => rfl
  | _ :: _, h => h.elim
theorem Dig.len : ∀ {ds ss : List Int}, Dig ds ss → ds.length = ss.length
  | [], [], _ => rfl
  | _ :: _, _ :: _, h => congrArg Nat.succ (Dig.len h.2)
  | [], _ :: _, h => h.elim
  | _ :: _, [], h => h.elim
theorem take_snoc {xs : List Int} {i : Nat} {x : Int} (h : xs[i]? = some x) : xs.take (i + 1) = xs.take i ++ [x] := by
  rw [List.take_add_one, h]
  rfl
theorem int_of_map {ns : List Int} {i : Nat} {y : V} (h : (ns.map V.int)[i]? = some y) : ∃ z, y = V.int z ∧ ns[i]? = some z := by
  rw [List.getElem?_map] at h
  cases e : ns[i]? with
  | none => rw [e] at h; cases h
  | some z => rw [e] at h; exact ⟨z, (Option.some.inj h).symm, rfl⟩
abbrev s_cell : Stmt := (top 19)
abbrev ps__law_cell : List Str := ["_law_script", "_law_k"]
theorem sc_cell : L2.FnScope ["_law_script", "_law_k"] ["_law_script", "_law_k"] (L2.defScope s_cell) := fsc
def spCell (K : PySem.W.Frag) : Sp := fun vs H Q _ => ∃ (a : Addr) (ns : List Int) (k : Int), vs = [.ref a, .int k] ∧ SqL K H a (ns.map V.int) ∧ 0 ≤ k ∧ k < 1000 ∧ ∀ c, Q (.int c) H
theorem ok_cell {f : Addr} {fd : FuncData} (F : Fun K "_law_cell" "_law_cell" s_cell f fd) (Z : Blt mg) : FnOk P w K mg base CX0 1 f fd ps__law_cell (spCell K) := by
  refine F.ok sc_cell (fun vs H Q E h => ?_) (fun cdv A outer s H vs Q E hr h => ?_)
  · obtain ⟨a, ns, k, rfl, _⟩ := h
    rfl
  obtain ⟨a, ns, k, rfl, hS, h0, h1, q⟩ := h
  refine ⟨_, (QB.run (pss_cons (ps_if (pt_cmpR op_lt (pv 1) (pe_callB call_len_seq rfl Z.len boot_len (pa_cons (pv 0) pa_nil)) (nomark _)) (pss_one (ps_ret (pe_ix ix_list (pv 0) (pv 1) (fun _ _ => rfl)))) pss_nil)
      (pss_one (ps_ret (pe_op op_add pe_int (pe_op op_mulB pe_int (pv 1))))))), ?_⟩
  refine ⟨_, rfl, _, rfl, a, _, rfl, .inl hS, _, _, rfl, rfl, _, rfl, ?_⟩
  refine ite2 (fun c => ?_) (fun c => ?_)
  · have c' : k < (((ns.map V.int).length : Nat) : Int) := of_decide_eq_true c
    rw [List.length_map] at c'
    have e : (ns.map V.int)[k.toNat]? = some (.int (ns[k.toNat]'(by omega))) := by
      rw [List.getElem?_map, List.getElem?_eq_getElem (by omega)]
      rfl
    have e2 := atI_nat e
    rw [show ((k.toNat : Nat) : Int) = k by omega] at e2
    exact ⟨_, rfl, _, rfl, a, _, k, _, rfl, rfl, hS, e2, q _⟩
  · exact ⟨_, rfl, _, _, rfl, rfl, .of (Bd.small (by decide) (by decide)) (Bd.small (x := k) (by omega) (by omega)), _, _, rfl, rfl, q _⟩
abbrev s_digits : Stmt := (top 20)
abbrev ps__law_digits : List Str := ["_law_cell_here", "_law_sizes"]
theorem sc_digits : L2.FnScope ["_law_cell_here", "_law_sizes", "_law_out", "_law_rest", "_law_size", "_law_one", "_law_k", "_law_two"] ["_law_cell_here", "_law_sizes"] (L2.defScope s_digits) := fsc
def spDigits (K : PySem.W.Frag) : Sp := fun vs H Q _ => ∃ (c : Int) (a : Addr) (ss : List Int), vs = [.int c, .ref a] ∧ SqL K H a (ss.map V.int) ∧ (∀ s ∈ ss, 0 < s ∧ Bd 9000 s) ∧ ss.length ≤ 1000 ∧
  ∀ (r : Addr) (H' : Hp) (ds : List Int), H r = none → Same H H' → H' r = some (.lst (ds.map V.int)) → Dig ds ss → Q (.ref r) H'
theorem ok_digits {f : Addr} {fd : FuncData} (F : Fun K "_law_digits" "_law_digits" s_digits f fd) (Z : Blt mg) : FnOk P w K mg base CX0 1 f fd ps__law_digits (spDigits K) := by
  refine F.ok sc_digits (fun vs H Q E h => ?_) (fun cdv A outer s H vs Q E hr h => ?_)
  · obtain ⟨c, a, ss, rfl, _⟩ := h
    rfl
  obtain ⟨c, a, ss, rfl, hS, hs, hl, q⟩ := h
  refine ⟨_, (QB.run (pss_cons (ps_set (i := 2) sc_digits.nd rfl (Or.inl rfl) (pe_lst pa_nil))
      (pss_cons (ps_if (pt_cmpR op_ge (pv 0) (pe_op op_pow pe_int pe_int) (nomark _)) (pss_cons (ps_set (i := 3) sc_digits.nd rfl (Or.inl rfl) (pe_op op_sub (pv 0) (pe_op op_pow pe_int pe_int)))
      (pss_cons (ps_for PassesOwn.never rfl (pi_list (pv 1)) (pg_name (i := 4) sc_digits.nd rfl (Or.inl rfl)) (pss_cons (ps_expr (pe_bm PySem.F.plainAttrs_list PySem.F.slot_list_append PySem.F.type_list_append mt_append (pv 2) (pa_cons (pe_op op_mod (pv 3) (pv 4)) pa_nil)))
      (pss_one (ps_set (i := 3) sc_digits.nd rfl (Or.inl rfl) (pe_op op_fdivB (pv 3) (pv 4))))))
      (pss_one (ps_ret (pv 2))))) pss_nil)
      (pss_cons (ps_set (i := 5) sc_digits.nd rfl (Or.inl rfl) (pe_op op_mod (pv 0) pe_int))
      (pss_cons (ps_for PassesOwn.never rfl (pi_range1 rfl Z.range (pa_cons (pe_callB call_len_seq rfl Z.len boot_len (pa_cons (pv 1) pa_nil)) pa_nil)) (pg_name (i := 6) sc_digits.nd rfl (Or.inl rfl)) (pss_cons (ps_set (i := 5) sc_digits.nd rfl (Or.inl rfl) (pe_op op_mod (pe_op op_add (pe_op op_mulB (pv 5) pe_int) (pe_op op_mulB pe_int (pe_op op_add (pv 6) pe_int))) pe_int))
      (pss_cons (ps_set (i := 7) sc_digits.nd rfl (Or.inl rfl) (pe_op op_mod (pe_op op_add (pe_op op_add (pe_op op_mulB (pv 5) (pv 5)) (pe_op op_mulB pe_int (pv 5))) (pv 6)) pe_int))
      (pss_one (ps_expr (pe_bm PySem.F.plainAttrs_list PySem.F.slot_list_append PySem.F.type_list_append mt_append (pv 2) (pa_cons (pe_op op_mod (pe_op op_fdivB (pv 7) pe_int) (pe_ix ix_list (pv 1) (pv 6) (fun _ _ => rfl))) pa_nil)))))))
      (pss_one (ps_ret (pv 2)))))))), ?_⟩
  refine ⟨Nat.zero_le _, fun r hr' => ?_⟩
  have g0 := Same.new hr' (.lst [])
  refine ⟨_, rfl, _, _, rfl, rfl, ⟨by decide, by decide, by decide⟩, _, _, rfl, rfl, _, rfl, ?_⟩
  refine ite2 (fun _ => ?_) (fun _ => ?_)
  · refine ⟨_, rfl, _, _, rfl, rfl, ⟨by decide, by decide, by decide⟩, _, _, rfl, rfl, ?_⟩
    refine ⟨_, rfl, a, rfl, ⟨_, g0.seq hS⟩, for_list (K := K) (a := a) (xs := ss.map V.int) (fun i σ H2 => ∃ (ds : List Int) (rest : Int) (u : Option V), σ = [some (.int c), some (.ref a), some (.ref r), some (.int rest), u, none, none, none] ∧
      Same H H2 ∧ H2 r = some (.lst (ds.map V.int)) ∧ Dig ds (ss.take i)) ⟨[], _, none, rfl, g0, upd_same, trivial⟩ (fun i σ H2 _ ⟨_, _, _, _, s2, _⟩ => s2.seq hS) ?_ ?_⟩
    · rintro i y σ H2 hi ⟨ds, rest, u, rfl, s2, hd, hD⟩
      obtain ⟨z, rfl, hz⟩ := int_of_map hi
      obtain ⟨z0, zb⟩ := hs z (List.mem_of_getElem? hz)
      have hil : i < ss.length := (List.getElem?_eq_some_iff.mp hz).1
      have dl := hD.len
      rw [List.length_take] at dl
      refine ⟨_, rfl, .inl ⟨rfl, _, SqL.of hd⟩, _, rfl, _, rfl, _, _, rfl, rfl, z0, r, _, _, rfl, rfl, hd, ?_, ?_⟩
      · rw [List.length_map]
        exact small1000 (by omega)
      refine ⟨_, rfl, _, rfl, _, _, rfl, rfl, ⟨by omega, zb⟩, ?_⟩
      refine ⟨ds ++ [rest % z], _, _, rfl, s2.rew hr' _, ?_, ?_⟩
      · rw [upd_same, List.map_append]
        rfl
      · rw [take_snoc hz]
        exact hD.snoc (Int.emod_nonneg _ (by omega)) (Int.emod_lt_of_pos _ z0)
    · rintro σ H2 ⟨ds, rest, u, rfl, s2, hd, hD⟩
      rw [List.length_map, List.take_length] at hD
      exact ⟨_, rfl, q r H2 ds hr' s2 hd hD⟩
  · refine ⟨_, rfl, _, _, rfl, rfl, (show (0 : Int) < 2147483647 by decide), ?_⟩
    refine ⟨_, rfl, a, _, rfl, .inl (g0.seq hS), _, rfl, ?_, ?_, for_range (lo := 0) (n := (ss.map V.int).length) (fun i σ H2 => ∃ (ds : List Int) (one : Int) (u v : Option V), σ = [some (.int c), some (.ref a), some (.ref r), none, none, some (.int one), u, v] ∧
      0 ≤ one ∧ one < 2147483647 ∧ Same H H2 ∧ H2 r = some (.lst (ds.map V.int)) ∧ Dig ds (ss.take i)) ⟨[], _, none, none, rfl, Int.emod_nonneg _ (by decide), Int.emod_lt_of_pos _ (by decide), g0, upd_same, trivial⟩ ?_ ?_⟩
    · omega
    · rw [List.length_map]; omega
    · rintro i σ H2 hi ⟨ds, one, u, v, rfl, o0, o1, s2, hd, hD⟩
      rw [List.length_map] at hi
      have hz : ss[i]? = some ss[i] := List.getElem?_eq_getElem hi
      obtain ⟨z0, zb⟩ := hs ss[i] (List.getElem_mem hi)
      have dl := hD.len
      rw [List.length_take] at dl
      have e1 : atI (ss.map V.int) (0 + (i : Int)) = some (.int ss[i]) := by
        rw [Int.zero_add]
        exact atI_nat (by rw [List.getElem?_map, hz]; rfl)
      simp only [tSeq, tNext, tAsg, gName, tRet, tRetN, tIfS, tTest, tOp, tUn, tVar, tC, rI, rI0, rU, rEq, rNe, scal_ii, scal_bb, scal_ss, Int.reduceLT, tPar, tCons, tNil, tCB, tCall, tTup, tLst, tNot, tNotV, tAndV, tOrV, tAnd, tOr, tB, tIf, tDrop, tBM, rAppend, gTup, gCons, gNil, iList, iRng1, iRng2, rIxL, rIxT, rIxLH, rIxTH, rT2, atI_0, atI_1, atI_2, atI_3, HO.lst.injEq, HO.tup.injEq, List.set_cons_zero, List.set_cons_succ, List.getElem?_cons_zero, List.getElem?_cons_succ, Option.some.injEq, exists_eq_left', exists_eq_left, exists_and_left, exists_eq, exists_eq', V.int.injEq, V.bl.injEq, V.ref.injEq, V.str.injEq, V.ty.injEq, decide_eq_true_eq, true_and, and_true, List.cons.injEq, List.append_nil, List.cons_append, List.nil_append, reduceCtorEq, Bool.not_eq_true', decide_eq_false_iff_not, and_assoc, ite_not, if_true, if_false, Bool.false_eq_true, decide_true, decide_false, L2.start, List.map_cons, List.map_nil, List.length_cons, List.length_nil, Nat.reduceAdd, Nat.reduceSub, List.replicate, cxOf, Cx.nox, Cx.wish, false_and, and_false, exists_false, false_or, or_false, id, selC, Option.getD_some, rIxS, tSl, tPart, tNoPart, rSlL, tLCs, gSub, rSetL, rJoin]
      have A0 : 0 ≤ (one * 48271 + 10007 * (0 + (i : Int) + 1)) % 2147483629 := Int.emod_nonneg _ (by decide)
      have A1 : (one * 48271 + 10007 * (0 + (i : Int) + 1)) % 2147483629 < 2147483629 := Int.emod_lt_of_pos _ (by decide)
      generalize (one * 48271 + 10007 * (0 + (i : Int) + 1)) % 2147483629 = A at A0 A1 ⊢
      generalize ((A * A + 69621 * A + (0 + (i : Int))) % 2147483563).fdiv 11 = B
      have small : ∀ x : Int, 0 ≤ x → x < 2147483648 → Bd 64 x := fun x h1 h2 => Bd.small (by omega) (by omega)
      refine ⟨.of (small _ o0 (by omega)) (small _ (by decide) (by decide)), .of (small _ (by decide) (by decide)) (small _ (by omega) (by omega)), .of (small _ A0 (by omega)) (small _ A0 (by omega)),
        .of (small _ (by decide) (by decide)) (small _ A0 (by omega)), .inl ⟨rfl, _, SqL.of hd⟩, ⟨by decide, (small _ (by decide) (by decide)).mono (by decide)⟩, _, s2.seq hS, _, e1, _, rfl, z0, _, hd, ?_, A0, by omega, s2.rew hr' _, ds ++ [B % ss[i]], ?_, ?_⟩
      · rw [List.length_map]
        exact small1000 (by omega)
      · rw [upd_same, List.map_append]
        rfl
      · rw [take_snoc hz]
        exact hD.snoc (Int.emod_nonneg _ (by omega)) (Int.emod_lt_of_pos _ z0)
    · rintro σ H2 ⟨ds, one, u, v, rfl, o0, o1, s2, hd, hD⟩
      rw [List.length_map, List.take_length] at hD
      exact ⟨_, rfl, q r H2 ds hr' s2 hd hD⟩
def Ret (H : Hp) (q : Rat) (Q : VK) : Prop := ∀ (r : Addr) (H' : Hp), Same H H' → H' r = some (.tup [.int q.num, .int q.den]) → Q (.ref r) H'
theorem gcd_bd {n : Nat} {t b : Int} (h : b ≠ 0) (hb : Bd n b) : Bd n ((Int.gcd t b : Nat) : Int) := hb.le (by have := gcd_le (t := t) h; omega)
abbrev s_low : Stmt := (top 22)
abbrev ps__law_low : List Str := ["_law_top", "_law_bottom"]
theorem sc_low : L2.FnScope ["_law_top", "_law_bottom", "_law_one", "_law_two"] ["_law_top", "_law_bottom"] (L2.defScope s_low) := fsc
def spLow : Sp := fun vs H Q _ => ∃ t b : Int, vs = [.int t, .int b] ∧ 0 < b ∧ Bd 9000 b ∧ Ret H (Rat.divInt t b) Q
theorem ok_low {f : Addr} {fd : FuncData} (F : Fun K "_law_low" "_law_low" s_low f fd) (Z : Blt mg) : FnOk P w K mg base CX0 1 f fd ps__law_low spLow := by
  refine F.ok sc_low (fun vs H Q E h => ?_) (fun cdv A outer s H vs Q E hr h => ?_)
  · obtain ⟨t, b, rfl, _⟩ := h
    rfl
  obtain ⟨t, b, rfl, hb, bb, q⟩ := h
  have hg := gcd_pos (t := t) (show b ≠ 0 by omega)
  have gb := gcd_bd (t := t) (show b ≠ 0 by omega) bb
  refine ⟨_, (QB.run (pss_cons (ps_set (i := 2) sc_low.nd rfl (Or.inl rfl) (pe_callB call_abs rfl Z.abs boot_abs (pa_cons (pv 0) pa_nil)))
      (pss_cons (ps_set (i := 3) sc_low.nd rfl (Or.inl rfl) (pv 1))
      (pss_cons (ps_while PassesOwn.never (pt_cmpR op_ne (pv 3) pe_int (nomark _)) (pss_one (ps_par (i := 2) (j := 3) rfl sc_low.nd rfl rfl (by decide) rfl rfl (pa_cons (pv 3) (pa_cons (pe_op op_mod (pv 2) (pv 3)) pa_nil)) rfl)))
      (pss_one (ps_ret (pe_tup (pa_cons (pe_op op_fdivB (pv 0) (pv 2)) (pa_cons (pe_op op_fdivB (pv 1) (pv 2)) pa_nil))))))))), ?_⟩
  refine ⟨_, rfl, t, rfl, _, rfl, ?_⟩
  refine while_by (fun σ H' => ∃ x y : Int, σ = [some (.int t), some (.int b), some (.int x), some (.int y)] ∧ H = H' ∧ 0 ≤ x ∧ 0 ≤ y ∧ Int.gcd x y = Int.gcd t b) (fun σ _ => match σ with | [_, _, _, some (.int y)] => y.toNat | _ => 0)
    ⟨_, _, rfl, rfl, by split <;> omega, by omega, gcd_abs1 t b⟩ ?_ (fun σ H Q Q' m h => ?_)
  · rintro σ H' ⟨x, y, rfl, rfl, hx, hy, hg'⟩
    simp only [tSeq, tNext, tAsg, gName, tRet, tRetN, tIfS, tTest, tOp, tUn, tVar, tC, rI, rI0, rU, rEq, rNe, scal_ii, scal_bb, scal_ss, Int.reduceLT, tPar, tCons, tNil, tCB, tCall, tTup, tLst, tNot, tNotV, tAndV, tOrV, tAnd, tOr, tB, tIf, tDrop, tBM, rAppend, gTup, gCons, gNil, iList, iRng1, iRng2, rIxL, rIxT, rIxLH, rIxTH, rT2, atI_0, atI_1, atI_2, atI_3, HO.lst.injEq, HO.tup.injEq, List.set_cons_zero, List.set_cons_succ, List.getElem?_cons_zero, List.getElem?_cons_succ, Option.some.injEq, exists_eq_left', exists_eq_left, exists_and_left, exists_eq, exists_eq', V.int.injEq, V.bl.injEq, V.ref.injEq, V.str.injEq, V.ty.injEq, decide_eq_true_eq, true_and, and_true, List.cons.injEq, List.append_nil, List.cons_append, List.nil_append, reduceCtorEq, Bool.not_eq_true', decide_eq_false_iff_not, and_assoc, ite_not, if_true, if_false, Bool.false_eq_true, decide_true, decide_false, L2.start, List.map_cons, List.map_nil, List.length_cons, List.length_nil, Nat.reduceAdd, Nat.reduceSub, List.replicate, cxOf, Cx.nox, Cx.wish, false_and, and_false, exists_false, false_or, or_false, id, selC, Option.getD_some, rIxS, tSl, tPart, tNoPart, rSlL, tLCs, gSub, rSetL, rJoin]
    split
    · rename_i hy0
      subst hy0
      have ex : x = ((Int.gcd t b : Nat) : Int) := by rw [← hg', gcd_end hx]
      subst ex
      refine ⟨⟨by omega, gb⟩, ⟨by omega, gb⟩, (by show 2 ≤ sizeLine; decide), fun p hp => ?_⟩
      exact q p _ (Same.new hp _) (by rw [upd_same, num_pos hb, den_pos hb])
    · rename_i hy0
      have h1 := Int.emod_lt_of_pos x (show 0 < y by omega)
      have h2 := Int.emod_nonneg x hy0
      exact ⟨by omega, hy, h2, (gcd_step hy0).trans hg', by omega⟩
  · obtain ⟨v, e, hs, k, ek, hq⟩ := h
    exact ⟨v, e, hs, k, ek, m _ _ hq⟩
abbrev s_good_name : Stmt := (top 9)
abbrev ps_good_name : List Str := ["text"]
theorem sc_good_name : L2.FnScope ["text"] ["text"] (L2.defScope s_good_name) := fsc
def alphabet36 : Str := "abcdefghijklmnopqrstuvwxyz0123456789"
def good (y : Str) : Bool := decide (1 ≤ y.cps.size) && decide (y.cps.size ≤ 8) && y.cps.toList.all (signIn alphabet36)
def spGood (T : Addr) : Sp := fun vs H Q _ => ∃ y : Str, vs = [.str y] ∧ y.length ≤ sizeLine ∧ H T = some (.ext (TabOk T)) ∧ Q (.bl (good y)) H
theorem ok_good_name {T f c : Addr} {fd : FuncData} (F : FunG K mg "good_name" s_good_name T f fd c) (Z : Blt mg) (Bm : BMain mg base) {t_LONGEST t_SIGNS : Tok} (g_LONGEST : mg "LONGEST" = some (.int 8 t_LONGEST)) (g_SIGNS : mg "SIGNS" = some (.str "abcdefghijklmnopqrstuvwxyz0123456789" t_SIGNS)) :
    FnOk P w K mg base CX0 1 f fd ps_good_name (spGood T) := by
  refine okG F sc_good_name (fun vs H Q E h => ?_) (fun A outer s H vs Q E hr h => ?_)
  · obtain ⟨y, rfl, _⟩ := h
    rfl
  obtain ⟨y, rfl, hz, hT, q⟩ := h
  refine ⟨_, (pss_cons (ps_if (pw_pt (pw_or (pt_cmpR op_lt (pe_callB call_len_str rfl Z.len boot_len (pa_cons (pv 0) pa_nil)) pe_int (nomark _)) (pw_or1 (pt_cmpR op_gt (pe_callB call_len_str rfl Z.len boot_len (pa_cons (pv 0) pa_nil)) (pe_glob (v := .int 8) rfl g_LONGEST ⟨_, rfl⟩) (nomark _))))) (pss_one (ps_ret pe_bl)) pss_nil)
      (pss_one (ps_ret (pe_allIn rfl Bm rfl F.tab hr rfl Z.all g_SIGNS (pv 0))))), ?_⟩
  have el : y.cps.size = y.length := rfl
  refine ⟨_, rfl, y, rfl, hz, _, _, rfl, rfl, _, rfl, ite2 (fun e => ?_) (fun e => ⟨_, rfl, y, rfl, hz, _, _, rfl, rfl, _, rfl, ite2 (fun e2 => ?_) (fun e2 => ?_)⟩)⟩
  · have e : (y.length : Int) < 1 := of_decide_eq_true e
    have z : good y = false := by
      unfold good
      rw [decide_eq_false (show ¬ 1 ≤ y.cps.size by omega)]
      rfl
    show Q (.bl false) H
    rw [← z]
    exact q
  · have e2 : (8 : Int) < (y.length : Int) := of_decide_eq_true e2
    have z : good y = false := by
      unfold good
      rw [decide_eq_false (show ¬ y.cps.size ≤ 8 by omega), Bool.and_false]
      rfl
    show Q (.bl false) H
    rw [← z]
    exact q
  · have e : ¬ (y.length : Int) < 1 := of_decide_eq_false (Bool.eq_false_iff.mpr e)
    have e2 : ¬ (8 : Int) < (y.length : Int) := of_decide_eq_false (Bool.eq_false_iff.mpr e2)
    have z : good y = y.cps.toList.all (signIn alphabet36) := by
      unfold good
      rw [decide_eq_true (show 1 ≤ y.cps.size by omega), decide_eq_true (show y.cps.size ≤ 8 by omega)]
      rfl
    refine ⟨_, rfl, y, rfl, hT, ?_⟩
    show Q (.bl (y.cps.toList.all (signIn alphabet36))) H
    rw [← z]
    exact q
abbrev s_names : Stmt := (top 24)
abbrev ps__law_names : List Str := ["_law_cell_here", "_law_many"]
theorem sc_names : L2.FnScope ["_law_cell_here", "_law_many", "_law_signs", "_law_row", "_law_some", "_law_body", "_law_at", "_law_out", "_law_k"] ["_law_cell_here", "_law_many"] (L2.defScope s_names) := fsc
def spNames : Sp := fun vs H Q _ => ∃ c m : Int, vs = [.int c, .int m] ∧ 0 ≤ m ∧ m ≤ 36 ∧ ∀ (r : Addr) (H' : Hp) (xs : List Str), H r = none → Same H H' → H' r = some (.lst (xs.map V.str)) → (xs.length : Int) = m → xs.Nodup → (∀ x ∈ xs, good x = true) → Q (.ref r) H'
def menu : List Str := ["m", "ab", "a", "zebra9", "b0", "0", "abc", "9zz", "q7q7q7q7", "aa", "z", "a1b2c3d4"]
def alphabet : Str := "abcdefghijklmnopqrstuvwxyz0123456789"
theorem menu_nd : menu.Nodup := by decide +kernel
theorem alpha_nd : alphabet.cps.toList.Nodup := by decide +kernel
theorem alpha_len : alphabet.cps.toList.length = 36 := by decide +kernel
theorem atI_in {α : Type} {xs : List α} {j : Int} (h0 : 0 ≤ j) (h1 : j < xs.length) : atI xs j = some (xs[j.toNat]'(by omega)) := by
  have h := atI_nat (xs := xs) (j := j.toNat) (List.getElem?_eq_getElem (by omega))
  rw [show ((j.toNat : Nat) : Int) = j by omega] at h
  exact h
def cyc {α : Type} (xs : List α) (z : α) (d : Int) (k : Nat) : α := xs.getD ((d + 5 * (k : Int)) % (xs.length : Int)).toNat z
section
variable {α : Type} {xs : List α} {z : α} (d : Int)
theorem cyc_ix (h : 0 < xs.length) (k : Nat) : 0 ≤ (d + 5 * (k : Int)) % (xs.length : Int) ∧ (d + 5 * (k : Int)) % (xs.length : Int) < (xs.length : Int) := ⟨Int.emod_nonneg _ (by omega), Int.emod_lt_of_pos _ (by omega)⟩
theorem cyc_get (h : 0 < xs.length) (k : Nat) : xs[((d + 5 * (k : Int)) % (xs.length : Int)).toNat]? = some (cyc xs z d k) := by
  have := cyc_ix d h k
  unfold cyc
  rw [List.getD_eq_getElem?_getD, List.getElem?_eq_getElem (by omega)]
  rfl
theorem cyc_at (h : 0 < xs.length) (k : Nat) : atI xs ((d + 5 * (k : Int)) % (xs.length : Int)) = some (cyc xs z d k) := by
  have := atI_nat (cyc_get (z := z) d h k)
  rwa [Int.toNat_of_nonneg (cyc_ix d h k).1] at this
theorem cyc_mem (h : 0 < xs.length) (k : Nat) : cyc xs z d k ∈ xs := List.mem_of_getElem? (cyc_get d h k)
theorem five {M a b d u v : Int} (g : 5 * u = 1 + M * v) (a0 : 0 ≤ a) (a1 : a < M) (b0 : 0 ≤ b) (b1 : b < M) (e : (d + 5 * a) % M = (d + 5 * b) % M) : a = b := by
  have h : M ∣ 5 * (a - b) := by
    have := Int.dvd_of_emod_eq_zero (Int.emod_eq_emod_iff_emod_sub_eq_zero.mp e)
    rwa [show d + 5 * a - (d + 5 * b) = 5 * (a - b) by omega] at this
  obtain ⟨c, hc⟩ : M ∣ a - b := by
    obtain ⟨c, hc⟩ := h
    refine ⟨u * c - v * (a - b), ?_⟩
    have h1 : 5 * u * (a - b) = u * (M * c) := by rw [← hc]; grind
    rw [g] at h1
    grind
  rcases Int.lt_trichotomy c 0 with k | k | k
  · have : M * c ≤ M * (-1) := Int.mul_le_mul_of_nonneg_left (by omega) (by omega)
    omega
  · subst k; omega
  · have : M * 1 ≤ M * c := Int.mul_le_mul_of_nonneg_left (by omega) (by omega)
    omega
theorem cyc_inj (u v : Int) (hn : xs.Nodup) (g : 5 * u = 1 + (xs.length : Int) * v) {i j : Nat} (hi : i < xs.length) (hj : j < xs.length) (e : cyc xs z d i = cyc xs z d j) : i = j := by
  have h : 0 < xs.length := by omega
  have a := cyc_get (z := z) d h i
  have b := cyc_get (z := z) d h j
  rw [e] at a
  obtain ⟨a1, a2⟩ := List.getElem?_eq_some_iff.mp a
  obtain ⟨b1, b2⟩ := List.getElem?_eq_some_iff.mp b
  have e1 := (List.getElem_inj hn).mp (a2.trans b2.symm)
  have := cyc_ix d h i
  have := cyc_ix d h j
  exact Int.ofNat.inj (five g (Int.natCast_nonneg i) (Int.ofNat_lt.mpr hi) (Int.natCast_nonneg j) (Int.ofNat_lt.mpr hj) (show (d + 5 * (i : Int)) % _ = (d + 5 * (j : Int)) % _ by omega))
end
theorem menu_len : menu.length = 12 := by decide +kernel
abbrev pick : Int → Nat → Str := cyc menu ""
theorem pick_at (d : Int) (k : Nat) : atI (menu.map V.str) ((d + 5 * (k : Int)) % 12) = some (.str (pick d k)) := by
  have h := cyc_ix (xs := menu) d (by decide +kernel) k
  have g := atI_nat (xs := menu.map V.str) (j := ((d + 5 * (k : Int)) % (menu.length : Int)).toNat) (by rw [List.getElem?_map, cyc_get (xs := menu) (z := "") d (by decide +kernel) k]; rfl)
  rw [Int.toNat_of_nonneg h.1, menu_len] at g
  exact g
theorem picks_nd (d : Int) {m : Nat} (hm : m ≤ 12) : ((List.range m).map (pick d)).Nodup := by
  refine List.Pairwise.map (R := fun i j => i < 12 ∧ j < 12 ∧ i ≠ j) _ (fun i j ⟨a, b, c⟩ e => c (cyc_inj d 5 2 menu_nd (by decide +kernel) a b e)) ?_
  refine List.Pairwise.imp_of_mem (R := fun i j => i ≠ j) (fun {i j} hi hj ne => ?_) (List.nodup_range)
  rw [List.mem_range] at hi hj
  exact ⟨by omega, by omega, ne⟩
theorem menu_good : ∀ x ∈ menu, good x = true := by decide +kernel
theorem alpha_good : ∀ c ∈ alphabet.cps.toList, signIn alphabet36 c = true := by decide +kernel
theorem pick_good (d : Int) (k : Nat) : good (pick d k) = true := menu_good _ (cyc_mem d (by decide +kernel) k)
theorem good_of {cs : List Nat} (h0 : 0 < cs.length) (h1 : cs.length ≤ 8) (h : ∀ c ∈ cs, signIn alphabet36 c = true) : good ⟨cs.toArray⟩ = true := by
  unfold good
  rw [Bool.and_eq_true, Bool.and_eq_true]
  refine ⟨⟨decide_eq_true ?_, decide_eq_true ?_⟩, List.all_eq_true.mpr fun c hc => h c (by simpa using hc)⟩
  · show 1 ≤ cs.toArray.size; rw [List.size_toArray]; omega
  · show cs.toArray.size ≤ 8; rw [List.size_toArray]; omega
abbrev sign : Int → Nat → Nat := cyc alphabet.cps.toList 0
theorem sign_at (d : Int) (k : Nat) : atI alphabet.cps.toList ((d + 5 * (k : Int)) % 36) = some (sign d k) := by
  have h := cyc_at (xs := alphabet.cps.toList) (z := 0) d (by decide +kernel) k
  rw [alpha_len] at h
  exact h
theorem sign_good (d : Int) (k : Nat) : signIn alphabet36 (sign d k) = true := alpha_good _ (cyc_mem d (by decide +kernel) k)
theorem sign_inj (d : Int) {i j : Nat} (hi : i < 36) (hj : j < 36) (e : sign d i = sign d j) : i = j := cyc_inj d (-7) (-1) alpha_nd (by decide +kernel) (by rw [alpha_len]; exact hi) (by rw [alpha_len]; exact hj) e
theorem texts_nd {d : Int} {n : Nat} {xs : List Str} (hl : xs.length ≤ 36) (h : ∀ k x, xs[k]? = some x → x.cps.toList[n]? = some (sign d k)) : xs.Nodup := by
  refine List.pairwise_iff_getElem.mpr fun i j hi hj hij e => ?_
  have a := h i _ (List.getElem?_eq_getElem hi)
  have b := h j _ (List.getElem?_eq_getElem hj)
  rw [e] at a
  rw [a] at b
  have := sign_inj d (by omega) (by omega) (Option.some.inj b)
  omega
theorem cut_take {xs : List V} {k : Int} (h : 0 ≤ k) : cutV xs none (some k) = xs.take k.toNat := by
  obtain ⟨j, rfl⟩ : ∃ j : Nat, k = (j : Int) := ⟨k.toNat, by omega⟩
  unfold cutV
  rw [HT.sIx_none, HT.sIx_nat, List.drop_zero, Int.toNat_natCast]
  rcases Nat.le_total j xs.length with e | e
  · rw [Nat.min_eq_left e]
    rfl
  · rw [Nat.min_eq_right e, Nat.sub_zero, List.take_of_length_le (Nat.le_refl _), List.take_of_length_le e]
theorem ones_sum (cs : List Nat) : ((cs.map one).map (·.length)).sum = cs.length := by
  induction cs with
  | nil => rfl
  | cons c cs ih =>
    rw [List.map_cons, List.map_cons, List.sum_cons, ih, List.length_cons]
    show 1 + cs.length = cs.length + 1
    omega
theorem row12 {ds : List Int} (hD : Dig ds [3, 36, 8, 36, 36, 36, 36, 36, 36, 36, 36, 840]) : ∃ (d0 d1 d2 d11 : Int) (es : List Int), atI (ds.map V.int) 0 = some (.int d0) ∧ atI (ds.map V.int) 1 = some (.int d1) ∧ atI (ds.map V.int) 2 = some (.int d2) ∧ atI (ds.map V.int) 11 = some (.int d11) ∧
    cutV (ds.map V.int) (some 3) (some 11) = es.map V.int ∧ es.length = 8 ∧ (∀ e ∈ es, 0 ≤ e ∧ e < 36) ∧ 0 ≤ d2 ∧ d2 < 8 := by
  obtain ⟨d0, ds, rfl, _, _, hD⟩ := hD.cons
  obtain ⟨d1, ds, rfl, _, _, hD⟩ := hD.cons
  obtain ⟨d2, ds, rfl, d20, d21, hD⟩ := hD.cons
  have key : ∀ (n : Nat) {ds : List Int}, Dig ds (List.replicate n 36 ++ [840]) → ∃ es d, ds = es ++ [d] ∧ es.length = n ∧ ∀ e ∈ es, 0 ≤ e ∧ e < 36 := by
    intro n
    induction n with
    | zero => intro ds h; obtain ⟨d, ds, rfl, _, _, h⟩ := h.cons; cases h.nil; exact ⟨[], d, rfl, rfl, fun e he => by cases he⟩
    | succ n ih =>
      intro ds h
      obtain ⟨d, ds, rfl, h0, h1, h⟩ := h.cons
      obtain ⟨es, x, rfl, hl, he⟩ := ih h
      exact ⟨d :: es, x, rfl, congrArg Nat.succ hl, List.forall_mem_cons.mpr ⟨⟨h0, h1⟩, he⟩⟩
  obtain ⟨es, d11, rfl, hl, he⟩ := key 8 hD
  refine ⟨d0, d1, d2, d11, es, atI_nat (j := 0) rfl, atI_nat (j := 1) rfl, atI_nat (j := 2) rfl, atI_nat (j := 11) ?_, ?_, hl, he, d20, d21⟩
  · rw [List.getElem?_map, List.getElem?_cons_succ, List.getElem?_cons_succ, List.getElem?_cons_succ, List.getElem?_append_right (by omega), hl]; rfl
  · have h11 : ((d0 :: d1 :: d2 :: (es ++ [d11])).map V.int).length = 12 := by simp [hl]
    unfold cutV
    rw [show (some (3 : Int)) = some ((3 : Nat) : Int) from rfl, show (some (11 : Int)) = some ((11 : Nat) : Int) from rfl, HT.sIx_nat, HT.sIx_nat, h11]
    show List.take 8 ((es ++ [d11]).map V.int) = _
    rw [List.map_append, List.take_append_of_le_length (by simp [hl]), List.take_of_length_le (by simp [hl])]
theorem ite_two {p q a b : Prop} [Decidable p] [Decidable q] : (if p then if q then a else b else b) = if p ∧ q then a else b := by by_cases hp : p <;> by_cases hq : q <;> simp [hp, hq]
theorem ok_names {f : Addr} {fd : FuncData} (F : Fun K "_law_names" "_law_names" s_names f fd) (Z : Blt mg) (C_digits : Can P w K mg base 1 "_law_digits" ps__law_digits (spDigits K)) : FnOk P w K mg base CX0 2 f fd ps__law_names spNames := by
  refine F.ok sc_names (fun vs H Q E h => ?_) (fun cdv A outer s H vs Q E hr h => ?_)
  · obtain ⟨c, m, rfl, _⟩ := h
    rfl
  obtain ⟨c, m, rfl, m0, m1, q⟩ := h
  refine ⟨_, (QB.run (pss_cons (ps_set (i := 2) sc_names.nd rfl (Or.inr rfl) pe_str)
      (pss_cons (ps_set (i := 3) sc_names.nd rfl (Or.inr rfl) (pe_fn C_digits hr (by decide) rfl (pa_cons (pv 0) (pa_cons (pe_lst (pa_cst [.int 3, .int 36, .int 8, .int 36, .int 36, .int 36, .int 36, .int 36, .int 36, .int 36, .int 36, .int 840] rfl)) pa_nil))))
      (pss_cons (ps_if (pw_pt (pw_and (pt_cmpR op_eq (pe_ix ix_listH (pv 3) pe_int (fun _ _ => rfl)) pe_int (nomark _)) (pw_and1 (pt_cmpR op_le (pv 1) pe_int (nomark _))))) (pss_cons (ps_set (i := 4) sc_names.nd rfl (Or.inr rfl) (pe_lst (pa_cst [.str "m", .str "ab", .str "a", .str "zebra9", .str "b0", .str "0", .str "abc", .str "9zz", .str "q7q7q7q7", .str "aa", .str "z", .str "a1b2c3d4"] rfl)))
      (pss_one (ps_ret (pe_comp (defScope s_names) ["_law_cell_here", "_law_many", "_law_signs", "_law_row", "_law_some", "_law_body", "_law_at", "_law_out", "_law_k"] [("_law_row", 3), ("_law_some", 4)] rfl rfl rfl (pi_range1 rfl Z.range (pa_cons (pv 1) pa_nil)) (fun _ _ _ _ _ _ => (pe_ix ix_listH (pv 2) (pe_op op_mod (pe_op op_add (pe_ix ix_listH (pv 1) pe_int (fun _ _ => rfl)) (pe_op op_mulB pe_int (pv 0))) pe_int) (fun _ _ => rfl))))))) pss_nil)
      (pss_cons (ps_comp (i := 5) (defScope s_names) ["_law_cell_here", "_law_many", "_law_signs", "_law_row", "_law_some", "_law_body", "_law_at", "_law_out", "_law_k"] [("_law_signs", 2)] rfl rfl rfl sc_names.nd rfl (Or.inl rfl) (pi_list (pe_slice sl_list (pv 3) (po_some pe_int) (po_some pe_int))) (fun _ _ _ _ _ _ => (pe_ix ix_str (pv 1) (pv 0) (fun _ _ => rfl))))
      (pss_join (ps_if (pt_cmpR op_eq (pe_ix ix_listH (pv 3) pe_int (fun _ _ => rfl)) pe_int (nomark _)) (pss_one (ps_set (i := 5) sc_names.nd rfl (Or.inl rfl) (pe_slice sl_list (pv 5) po_none (po_some (pe_op op_add (pe_ix ix_listH (pv 3) pe_int (fun _ _ => rfl)) pe_int))))) pss_nil)
      (pss_cons (ps_set (i := 6) sc_names.nd rfl (Or.inl rfl) (pe_op op_mod (pe_ix ix_listH (pv 3) pe_int (fun _ _ => rfl)) (pe_callB call_len_seq rfl Z.len boot_len (pa_cons (pv 5) pa_nil))))
      (pss_cons (ps_set (i := 7) sc_names.nd rfl (Or.inl rfl) (pe_lst pa_nil))
      (pss_cons (ps_for PassesOwn.never rfl (pi_range1 rfl Z.range (pa_cons (pv 1) pa_nil)) (pg_name (i := 8) sc_names.nd rfl (Or.inl rfl)) (pss_cons (ps_asg (pe_ix ix_str (pv 2) (pe_op op_mod (pe_op op_add (pe_ix ix_listH (pv 3) pe_int (fun _ _ => rfl)) (pe_op op_mulB pe_int (pv 8))) pe_int) (fun _ _ => rfl)) (pg_sub (pv 5) (pv 6) set_list))
      (pss_one (ps_expr (pe_bm PySem.F.plainAttrs_list PySem.F.slot_list_append PySem.F.type_list_append mt_append (pv 7) (pa_cons (pe_bm PySem.F.plainAttrs_str PySem.F.slot_str_join PySem.F.type_str_join mt_join pe_str (pa_cons (pv 5) pa_nil)) pa_nil))))))
      (pss_one (ps_ret (pv 7)))))))))))), ?_⟩
  refine ⟨_, rfl, (by show 12 ≤ sizeLine; decide), fun p hp => ?_⟩
  have ss := sizes_ok (ss := [3, 36, 8, 36, 36, 36, 36, 36, 36, 36, 36, 840]) (by decide)
  refine ⟨c, p, [3, 36, 8, 36, 36, 36, 36, 36, 36, 36, 36, 840], rfl, SqL.of upd_same, ss, by decide, fun r H1 ds _ g1 hr1 hD => ?_⟩
  obtain ⟨d0, d1, d2, d11, es, at0, at1, at2, at11, hcut, el, be, d20, d21⟩ := row12 hD
  clear hD
  generalize ds.map V.int = row at hr1 at0 at1 at2 at11 hcut
  have g1 := (Same.new hp _).trans g1
  simp only [tSeq, tNext, tAsg, gName, tRet, tRetN, tIfS, tTest, tOp, tUn, tVar, tC, rI, rI0, rU, rEq, rNe, scal_ii, scal_bb, scal_ss, Int.reduceLT, tPar, tCons, tNil, tCB, tCall, tTup, tLst, tNot, tNotV, tAndV, tOrV, tAnd, tOr, tB, tIf, tDrop, tBM, rAppend, gTup, gCons, gNil, iList, iRng1, iRng2, rIxL, rIxT, rIxLH, rIxTH, rT2, atI_0, atI_1, atI_2, atI_3, HO.lst.injEq, HO.tup.injEq, List.set_cons_zero, List.set_cons_succ, List.getElem?_cons_zero, List.getElem?_cons_succ, Option.some.injEq, exists_eq_left', exists_eq_left, exists_and_left, exists_eq, exists_eq', V.int.injEq, V.bl.injEq, V.ref.injEq, V.str.injEq, V.ty.injEq, decide_eq_true_eq, true_and, and_true, List.cons.injEq, List.append_nil, List.cons_append, List.nil_append, reduceCtorEq, Bool.not_eq_true', decide_eq_false_iff_not, and_assoc, ite_not, if_true, if_false, Bool.false_eq_true, decide_true, decide_false, L2.start, List.map_cons, List.map_nil, List.length_cons, List.length_nil, Nat.reduceAdd, Nat.reduceSub, List.replicate, cxOf, Cx.nox, Cx.wish, false_and, and_false, exists_false, false_or, or_false, id, selC, Option.getD_some, rIxS, tSl, tPart, tNoPart, rSlL, tLCs, gSub, rSetL, rJoin, hr1, at0, at1]
  rw [ite_two]
  split
  · refine ⟨(by show 12 ≤ sizeLine; decide), fun p2 hp2 => ?_⟩
    have g2 := Same.new hp2 (.lst (menu.map V.str))
    have h2 : (upd H1 p2 (.lst (menu.map V.str))) p2 = some (.lst (menu.map V.str)) := upd_same
    have hr2 := g2 _ _ hr1
    refine ⟨_, rfl, m, rfl, by omega, by omega, fun D hD => ?_⟩
    refine lc_range (lo := 0) (n := m.toNat) (fun i H' => Same (upd H1 p2 (.lst (menu.map V.str))) H' ∧ H' D = some (.lst (((List.range i).map (pick d1)).map V.str))) ⟨Same.new hD _, upd_same⟩ ?_ ?_
    · rintro i H' R hi ⟨g, hd⟩ k
      have hr3 := g _ _ hr2
      have h3 := g _ _ h2
      simp only [tSeq, tNext, tAsg, gName, tRet, tRetN, tIfS, tTest, tOp, tUn, tVar, tC, rI, rI0, rU, rEq, rNe, scal_ii, scal_bb, scal_ss, Int.reduceLT, tPar, tCons, tNil, tCB, tCall, tTup, tLst, tNot, tNotV, tAndV, tOrV, tAnd, tOr, tB, tIf, tDrop, tBM, rAppend, gTup, gCons, gNil, iList, iRng1, iRng2, rIxL, rIxT, rIxLH, rIxTH, rT2, atI_0, atI_1, atI_2, atI_3, HO.lst.injEq, HO.tup.injEq, List.set_cons_zero, List.set_cons_succ, List.getElem?_cons_zero, List.getElem?_cons_succ, Option.some.injEq, exists_eq_left', exists_eq_left, exists_and_left, exists_eq, exists_eq', V.int.injEq, V.bl.injEq, V.ref.injEq, V.str.injEq, V.ty.injEq, decide_eq_true_eq, true_and, and_true, List.cons.injEq, List.append_nil, List.cons_append, List.nil_append, reduceCtorEq, Bool.not_eq_true', decide_eq_false_iff_not, and_assoc, ite_not, if_true, if_false, Bool.false_eq_true, decide_true, decide_false, L2.start, List.map_cons, List.map_nil, List.length_cons, List.length_nil, Nat.reduceAdd, Nat.reduceSub, List.replicate, cxOf, Cx.nox, Cx.wish, false_and, and_false, exists_false, false_or, or_false, id, selC, Option.getD_some, rIxS, tSl, tPart, tNoPart, rSlL, tLCs, gSub, rSetL, rJoin, hr3, h3, at1, Int.zero_add]
      refine ⟨.of (Bd.small (by decide) (by decide)) (Bd.small (x := (i : Int)) (by omega) (by omega)), _, pick_at d1 i, ?_⟩
      refine k _ _ _ hd (by rw [List.length_map, List.length_map, List.length_range]; exact small1000 (by omega)) ⟨g.rew hD _, ?_⟩
      rw [upd_same]
      simp [List.range_succ]
    · rintro H' ⟨g, hd⟩
      exact q D H' _ (g1.free (g2.free hD)) (g1.trans (g2.trans g)) hd (by rw [List.length_map, List.length_range]; omega) (picks_nd d1 (by omega)) (fun x hx => by obtain ⟨k, _, rfl⟩ := List.mem_map.mp hx; exact pick_good d1 k)
  refine ⟨_, rfl, 3, rfl, 11, rfl, r, _, rfl, SqL.of hr1, fun p2 hp2 => ⟨p2, rfl, ⟨_, SqL.of upd_same⟩, fun D hD => ?_⟩⟩
  rw [hcut] at hD ⊢
  have g2 := Same.new hp2 (.lst (es.map V.int))
  have hr2 := g2 _ _ hr1
  have h2 : (upd H1 p2 (.lst (es.map V.int))) p2 = some (.lst (es.map V.int)) := upd_same
  have al := alpha_len
  have al2 : alphabet.length ≤ sizeLine := by decide +kernel
  refine lc_list (K := K) (a := p2) (xs := es.map V.int) (fun i H' => Same (upd H1 p2 (.lst (es.map V.int))) H' ∧ ∃ cs : List Nat, cs.length = i ∧ (∀ c ∈ cs, signIn alphabet36 c = true) ∧ H' D = some (.lst ((cs.map one).map V.str)))
    ⟨Same.new hD _, [], rfl, (fun c hc => by cases hc), upd_same⟩ (fun i H' _ ⟨g, _⟩ => SqL.of (g _ _ h2)) ?_ ?_
  · rintro i y H' R hi ⟨g, cs, hcs, hca, hd⟩ k
    have hil := (List.getElem?_eq_some_iff.mp hi).1
    obtain ⟨z, rfl, hz⟩ := int_of_map hi
    obtain ⟨z0, z1⟩ := be z (List.mem_of_getElem? hz)
    have at1 := atI_in (xs := alphabet.cps.toList) z0 (by rw [al]; exact z1)
    simp only [tSeq, tNext, tAsg, gName, tRet, tRetN, tIfS, tTest, tOp, tUn, tVar, tC, rI, rI0, rU, rEq, rNe, scal_ii, scal_bb, scal_ss, Int.reduceLT, tPar, tCons, tNil, tCB, tCall, tTup, tLst, tNot, tNotV, tAndV, tOrV, tAnd, tOr, tB, tIf, tDrop, tBM, rAppend, gTup, gCons, gNil, iList, iRng1, iRng2, rIxL, rIxT, rIxLH, rIxTH, rT2, atI_0, atI_1, atI_2, atI_3, HO.lst.injEq, HO.tup.injEq, List.set_cons_zero, List.set_cons_succ, List.getElem?_cons_zero, List.getElem?_cons_succ, Option.some.injEq, exists_eq_left', exists_eq_left, exists_and_left, exists_eq, exists_eq', V.int.injEq, V.bl.injEq, V.ref.injEq, V.str.injEq, V.ty.injEq, decide_eq_true_eq, true_and, and_true, List.cons.injEq, List.append_nil, List.cons_append, List.nil_append, reduceCtorEq, Bool.not_eq_true', decide_eq_false_iff_not, and_assoc, ite_not, if_true, if_false, Bool.false_eq_true, decide_true, decide_false, L2.start, List.map_cons, List.map_nil, List.length_cons, List.length_nil, Nat.reduceAdd, Nat.reduceSub, List.replicate, cxOf, Cx.nox, Cx.wish, false_and, and_false, exists_false, false_or, or_false, id, selC, Option.getD_some, rIxS, tSl, tPart, tNoPart, rSlL, tLCs, gSub, rSetL, rJoin]
    refine ⟨al2, _, at1, ?_⟩
    refine k _ _ _ hd (by rw [List.length_map, List.length_map, hcs]; rw [List.length_map] at hil; exact small1000 (by omega)) ⟨g.rew hD _, cs ++ [alphabet.cps.toList[z.toNat]'(by rw [al]; omega)], by rw [List.length_append, hcs]; rfl, ?_, ?_⟩
    · intro c hc
      rcases List.mem_append.mp hc with hc | hc
      · exact hca c hc
      · rw [List.mem_singleton] at hc; subst hc; exact alpha_good _ (List.getElem_mem _)
    rw [upd_same, List.map_append, List.map_append]
    rfl
  rintro H2 ⟨g, cs, hcs, hca, hd⟩
  have hr3 := g _ _ hr2
  have g := g1.trans (g2.trans g)
  have hcs : cs.length = 8 := hcs.trans ((List.length_map _).trans el)
  obtain ⟨M, hM⟩ : ∃ M : L2.St → Hp → Prop, ∀ σ' H', M σ' H' ↔ ∃ (D : Addr) (cs : List Nat), σ' = [some (.int c), some (.int m), some (.str alphabet), some (.ref r), none, some (.ref D), none, none, none] ∧ Same H H' ∧ H D = none ∧ H' r = some (.lst row) ∧ D ≠ r ∧ 0 < cs.length ∧ cs.length ≤ 8 ∧ (∀ c ∈ cs, signIn alphabet36 c = true) ∧ H' D = some (.lst ((cs.map one).map V.str)) := ⟨_, fun _ _ => Iff.rfl⟩
  have fD : H D = none := g1.free (g2.free hD)
  have nDr : D ≠ r := (ne_of_none hr2 hD).symm
  refine ⟨M, ?_, ?_⟩
  · simp only [tSeq, tNext, tAsg, gName, tRet, tRetN, tIfS, tTest, tOp, tUn, tVar, tC, rI, rI0, rU, rEq, rNe, scal_ii, scal_bb, scal_ss, Int.reduceLT, tPar, tCons, tNil, tCB, tCall, tTup, tLst, tNot, tNotV, tAndV, tOrV, tAnd, tOr, tB, tIf, tDrop, tBM, rAppend, gTup, gCons, gNil, iList, iRng1, iRng2, rIxL, rIxT, rIxLH, rIxTH, rT2, atI_0, atI_1, atI_2, atI_3, HO.lst.injEq, HO.tup.injEq, List.set_cons_zero, List.set_cons_succ, List.getElem?_cons_zero, List.getElem?_cons_succ, Option.some.injEq, exists_eq_left', exists_eq_left, exists_and_left, exists_eq, exists_eq', V.int.injEq, V.bl.injEq, V.ref.injEq, V.str.injEq, V.ty.injEq, decide_eq_true_eq, true_and, and_true, List.cons.injEq, List.append_nil, List.cons_append, List.nil_append, reduceCtorEq, Bool.not_eq_true', decide_eq_false_iff_not, and_assoc, ite_not, if_true, if_false, Bool.false_eq_true, decide_true, decide_false, L2.start, List.map_cons, List.map_nil, List.length_cons, List.length_nil, Nat.reduceAdd, Nat.reduceSub, List.replicate, cxOf, Cx.nox, Cx.wish, false_and, and_false, exists_false, false_or, or_false, id, selC, Option.getD_some, rIxS, tSl, tPart, tNoPart, rSlL, tLCs, gSub, rSetL, rJoin, hr3, at0, at2]
    split
    · refine ⟨_, SqL.of hd, fun p4 hp4 => (hM _ _).mpr ⟨p4, cs.take (d2 + 1).toNat, rfl, g.trans (Same.new hp4 _), g.free hp4, ?_, ?_, ?_, ?_, (fun c hc => hca c (List.mem_of_mem_take hc)), ?_⟩⟩
      · exact (Same.new hp4 _) _ _ hr3
      · exact (ne_of_none hr3 hp4).symm
      · rw [List.length_take]; omega
      · rw [List.length_take]; omega
      · rw [upd_same, cut_take (by omega), List.map_take, List.map_take]
    · exact (hM _ _).mpr ⟨D, cs, rfl, g, fD, hr3, nDr, by omega, by omega, hca, hd⟩
  clear hca hd hr3 g fD nDr hcs
  intro σ5 H5 hm
  obtain ⟨D, cs, rfl, g, fD, hr3, nDr, l0, l1, hca, hd⟩ := (hM _ _).mp hm
  clear hm hM M
  have e0s : (Str.ofString "").length = 0 := by decide +kernel
  have hl : ((cs.map one).map V.str).length = cs.length := by rw [List.length_map, List.length_map]
  have hlp : (0 : Int) < (((cs.map one).map V.str).length : Nat) := by rw [hl]; omega
  have a0 := Int.emod_nonneg d11 (show (((cs.map one).map V.str).length : Int) ≠ 0 by omega)
  have a1 := Int.emod_lt_of_pos d11 hlp
  refine ⟨_, rfl, r, _, 11, _, rfl, rfl, hr3, at11, _, rfl, D, rfl, _, .inl (SqL.of hd), _, _, rfl, rfl, hlp, ?_⟩
  generalize hat : d11 % (((cs.map one).map V.str).length : Int) = at' at a0 a1
  rw [hl] at a1
  refine ⟨Nat.zero_le _, fun O hO => ?_⟩
  have gO := Same.new hO (.lst [])
  have nOD : O ≠ D := (ne_of_none hd hO).symm
  have nOr : O ≠ r := (ne_of_none hr3 hO).symm
  have fO : H O = none := g.free hO
  refine ⟨_, rfl, m, rfl, by omega, by omega, for_range (lo := 0) (n := m.toNat) (fun i σ H' => ∃ (v : Option V) (cs' : List Nat) (xs : List Str), σ = [some (.int c), some (.int m), some (.str alphabet), some (.ref r), none, some (.ref D), some (.int at'), some (.ref O), v] ∧
    Same H H' ∧ H' r = some (.lst row) ∧ cs'.length = cs.length ∧ (∀ c ∈ cs', signIn alphabet36 c = true) ∧ H' D = some (.lst ((cs'.map one).map V.str)) ∧ H' O = some (.lst (xs.map V.str)) ∧ xs.length = i ∧ (∀ x ∈ xs, good x = true) ∧ ∀ k x, xs[k]? = some x → x.cps.toList[at'.toNat]? = some (sign d1 k)) ?_ ?_ ?_⟩
  · exact ⟨none, cs, [], by rw [← hat]; rfl, g.trans gO, gO _ _ hr3, rfl, hca, gO _ _ hd, upd_same, rfl, (fun x hx => by cases hx), fun k x e => by cases e⟩
  · rintro i σ H' hi ⟨v, cs', xs, rfl, g', hr', hl', hca', hd', ho', hx, hxl, hs⟩
    have al2 : alphabet.length ≤ sizeLine := by decide +kernel
    have sg := sign_at d1 i
    refine ⟨_, rfl, _, rfl, r, _, 1, _, rfl, rfl, hr', at1, _, rfl, _, _, rfl, rfl, .of (Bd.small (by decide) (by decide)) (Bd.small (x := 0 + (i : Int)) (by omega) (by omega)), _, _, rfl, rfl, _, _, rfl, rfl, (show (0 : Int) < 36 by decide), _, _, _, rfl, rfl, al2, (by rw [Int.zero_add]; exact sg), ?_⟩
    have ix : ixN ((cs'.map one).map V.str).length at' = some at'.toNat := by
      unfold ixN
      rw [if_pos a0, if_pos (by rw [List.length_map, List.length_map, hl']; exact a1)]
    refine ⟨_, rfl, _, rfl, D, _, at', _, rfl, rfl, hd', ix, ?_⟩
    have es : ((cs'.map one).map V.str).set at'.toNat (.str ⟨#[sign d1 i]⟩) = ((cs'.set at'.toNat (sign d1 i)).map one).map V.str := by
      rw [List.map_set, List.map_set]
      rfl
    have gD := Same.rew fD g' (.lst (((cs'.map one).map V.str).set at'.toNat (.str ⟨#[sign d1 i]⟩)))
    have hD2 : (upd H' D (.lst (((cs'.map one).map V.str).set at'.toNat (.str ⟨#[sign d1 i]⟩)))) D = some (.lst (((cs'.set at'.toNat (sign d1 i)).map one).map V.str)) := by rw [upd_same, es]
    have hr2 : (upd H' D (.lst (((cs'.map one).map V.str).set at'.toNat (.str ⟨#[sign d1 i]⟩)))) r = _ := (upd_ne nDr.symm).trans hr'
    have ho2 : (upd H' D (.lst (((cs'.map one).map V.str).set at'.toNat (.str ⟨#[sign d1 i]⟩)))) O = _ := (upd_ne nOD).trans ho'
    have lc : (cs'.set at'.toNat (sign d1 i)).length = cs.length := by rw [List.length_set, hl']
    have hcn : ∀ c ∈ cs'.set at'.toNat (sign d1 i), signIn alphabet36 c = true := fun c hc => by
      rcases List.mem_or_eq_of_mem_set hc with h | h
      · exact hca' c h
      · rw [h]; exact sign_good d1 i
    refine ⟨_, rfl, .inl ⟨rfl, _, SqL.of ho2⟩, rfl, _, rfl, _, D, (cs'.set at'.toNat (sign d1 i)).map one, rfl, rfl, SqL.of hD2, ?_, O, _, _, rfl, rfl, ho2, ?_, ?_⟩
    · rw [ones_sum, List.length_map, lc, e0s]
      omega
    · rw [List.length_map, hx]
      exact small1000 (by omega)
    · rw [join_ones]
      refine ⟨_, cs'.set at'.toNat (sign d1 i), xs ++ [⟨(cs'.set at'.toNat (sign d1 i)).toArray⟩], rfl, gD.rew fO _, (upd_ne nOr.symm).trans hr2, lc, hcn, (upd_ne nOD.symm).trans hD2, ?_, by rw [List.length_append, hx]; rfl, ?_, ?_⟩
      · rw [upd_same, List.map_append]
        rfl
      · intro x hx2
        rcases List.mem_append.mp hx2 with h | h
        · exact hxl x h
        · simp only [List.mem_cons, List.not_mem_nil, or_false] at h
          subst h
          exact good_of (by rw [lc]; exact l0) (by rw [lc]; exact l1) hcn
      · intro k x e
        rcases Nat.lt_or_ge k xs.length with hk | hk
        · rw [List.getElem?_append_left hk] at e
          exact hs k x e
        · rw [List.getElem?_append_right hk] at e
          have ek : k = i := by
            cases hz : k - xs.length with
            | zero => omega
            | succ z => rw [hz] at e; cases e
          rw [show k - xs.length = 0 by omega] at e
          have ex := Option.some.inj e
          subst ex
          rw [ek]
          show (cs'.set at'.toNat (sign d1 i))[at'.toNat]? = some (sign d1 i)
          rw [List.getElem?_set_self (by omega)]
  · rintro σ H' ⟨v, cs', xs, rfl, g', hr', hl', hca', hd', ho', hx, hxl, hs⟩
    exact ⟨_, rfl, q O H' xs fO g' ho' (by omega) (texts_nd (by omega) hs) hxl⟩
theorem ints_of {K : PySem.W.Frag} {J : Hq} {H : Hp} : ∀ {ns : List Int} {vs : List V}, RepVs K J H (ns.map PV.int) vs → vs = ns.map V.int
  | [], _, h => h
  | n :: ns, _, ⟨v, us, e, h, k⟩ => by subst e; cases h; rw [ints_of k]; rfl
theorem one_of {K : PySem.W.Frag} {J : Hq} {H : Hp} {x : PV} {vs : List V} (h : RepVs K J H [x] vs) : ∃ v, vs = [v] ∧ RepV K J H x v := by
  obtain ⟨v, us, rfl, h1, h2⟩ := h; cases h2; exact ⟨v, rfl, h1⟩
theorem two_of {K : PySem.W.Frag} {J : Hq} {H : Hp} {x y : PV} {vs : List V} (h : RepVs K J H [x, y] vs) : ∃ v u, vs = [v, u] ∧ RepV K J H x v ∧ RepV K J H y u := by
  obtain ⟨v, us, rfl, h1, u, us', rfl, h2, h3⟩ := h; cases h3; exact ⟨v, u, rfl, h1, h2⟩
theorem ret_of {K : PySem.W.Frag} {J : Hq} {H : Hp} {q : Rat} {Q2 : PV → Hq → Prop} {Q : VK} (r : Rep K J H) (k : Kn K J H Q2 Q) (h : Q2 (fr q) J) : Ret H q Q := fun a H' s e =>
  k (fr q) J (.ref a) H' ⟨a, _, rfl, SqT.of e, ⟨_, _, rfl, rfl, _, _, rfl, rfl, rfl⟩⟩ (r.same s) (.same s) h
def spCellR : Spr := fun xs J Q _ => ∃ (ns : List Int) (k : Int), xs = [.fl (ns.map .int), .int k] ∧ 0 ≤ k ∧ k < 1000 ∧ ∀ c : Int, Q (.int c) J
theorem lift_cell (C : Can P w K mg base 1 "_law_cell" ps__law_cell (spCell K)) : CanR P w K mg base 1 "_law_cell" ps__law_cell spCellR := C.lift fun xs J vs H Q2 E2 Q E rs r ⟨ns, k, ex, h0, h1, q⟩ kn => by
  subst ex
  obtain ⟨v, u, rfl, ⟨a, ws, rfl, h2, h3⟩, r2⟩ := two_of rs
  cases r2; cases ints_of h3
  exact ⟨a, ns, k, rfl, h2.sq, h0, h1, fun c => kn (.int c) J _ H rfl r .refl (q c)⟩
def spDigR : Spr := fun xs J Q _ => ∃ (c : Int) (ss : List Int), xs = [.int c, .fl (ss.map .int)] ∧ (∀ s ∈ ss, 0 < s ∧ Bd 9000 s) ∧ ss.length ≤ 1000 ∧ ∀ ds, Dig ds ss → Q (.fl (ds.map .int)) J
theorem lift_digits (C : Can P w K mg base 1 "_law_digits" ps__law_digits (spDigits K)) : CanR P w K mg base 1 "_law_digits" ps__law_digits spDigR := C.lift fun xs J vs H Q2 E2 Q E rs r ⟨c, ss, ex, h0, h1, q⟩ kn => by
  subst ex
  obtain ⟨v, u, rfl, r1, ⟨a, ws, rfl, h2, h3⟩⟩ := two_of rs
  cases r1; cases ints_of h3
  refine ⟨c, a, ss, rfl, h2.sq, h0, h1, fun p H' ds hp s e D => kn (.fl (ds.map .int)) J (.ref p) H' ⟨p, _, rfl, .inl ⟨r.free hp, .inl e⟩, reps_ints ds⟩ (r.same s) (.same s) (q ds D)⟩
def spLowR : Spr := fun xs J Q _ => ∃ t b : Int, xs = [.int t, .int b] ∧ 0 < b ∧ Bd 9000 b ∧ Q (fr (Rat.divInt t b)) J
theorem lift_low (C : Can P w K mg base 1 "_law_low" ps__law_low spLow) : CanR P w K mg base 1 "_law_low" ps__law_low spLowR := C.lift fun xs J vs H Q2 E2 Q E rs r ⟨t, b, ex, h0, h1, q⟩ kn => by
  subst ex
  obtain ⟨v, u, rfl, r1, r2⟩ := two_of rs
  cases r1; cases r2
  exact ⟨t, b, rfl, h0, h1, ret_of r kn q⟩
def spNamesR : Spr := fun xs J Q _ => ∃ c m : Int, xs = [.int c, .int m] ∧ 0 ≤ m ∧ m ≤ 36 ∧ ∀ ns : List Str, (ns.length : Int) = m → ns.Nodup → (∀ x ∈ ns, good x = true) → Q (.fl (ns.map .str)) J
theorem reps_strs {K : PySem.W.Frag} {J : Hq} {H : Hp} : ∀ ns : List Str, RepVs K J H (ns.map PV.str) (ns.map V.str)
  | [] => rfl
  | n :: ns => ⟨_, _, rfl, rfl, reps_strs ns⟩
theorem lift_names (C : Can P w K mg base 2 "_law_names" ps__law_names spNames) : CanR P w K mg base 2 "_law_names" ps__law_names spNamesR := C.lift fun xs J vs H Q2 E2 Q E rs r ⟨c, m, ex, h0, h1, q⟩ kn => by
  subst ex
  obtain ⟨v, u, rfl, r1, r2⟩ := two_of rs
  cases r1; cases r2
  exact ⟨c, m, rfl, h0, h1, fun p H' ns hp s e hl nd lx => kn (.fl (ns.map .str)) J (.ref p) H' ⟨p, _, rfl, .inl ⟨r.free hp, .inl e⟩, reps_strs ns⟩ (r.same s) (.same s) (q ns hl nd lx)⟩
def spGoodR (T : Addr) : Spr := fun xs J Q _ => ∃ y : Str, xs = [.str y] ∧ y.length ≤ sizeLine ∧ J T = some .tab ∧ Q (.bl (good y)) J
theorem lift_good_name {T : Addr} (C : Can P w K mg base 1 "good_name" ps_good_name (spGood T)) : CanR P w K mg base 1 "good_name" ps_good_name (spGoodR T) := C.lift fun xs J vs H Q2 E2 Q E rs r ⟨y, ex, hl, hT, q⟩ kn => by
  subst ex
  obtain ⟨v, rfl, r1⟩ := one_of rs
  cases r1
  exact ⟨y, rfl, hl, r _ _ hT, kn (.bl _) J _ H rfl r .refl q⟩
def spSharedR : Spr := fun xs J Q _ => ∃ a b : Int, xs = [.int a, .int b] ∧ Q (.int (Int.gcd a b : Nat)) J
theorem lift_shared (C : Can P w K mg base 1 "shared" ps_shared spShared) : CanR P w K mg base 1 "shared" ps_shared spSharedR := C.lift fun xs J vs H Q2 E2 Q E rs r ⟨a, b, ex, q⟩ kn => by
  subst ex
  obtain ⟨v, u, rfl, r1, r2⟩ := two_of rs
  cases r1; cases r2
  exact ⟨a, b, rfl, kn (.int _) J _ H rfl r .refl q⟩
abbrev s_in_lowest_terms : Stmt := (top 5)
abbrev ps_in_lowest_terms : List Str := ["pair"]
theorem sc_in_lowest_terms : L2.FnScope ["pair"] ["pair"] (L2.defScope s_in_lowest_terms) := fsc
def spLowest : Spr := fun xs J Q _ => ∃ a b : Int, xs = [.tup [.int a, .int b]] ∧ Q (.bl (decide (1 ≤ b ∧ Int.gcd a b = 1))) J
theorem okr_in_lowest_terms {f : Addr} {fd : FuncData} (F : Fun K "in_lowest_terms" "in_lowest_terms" s_in_lowest_terms f fd) (Z : BltR mg) (C_shared : CanR P w K mg base 1 "shared" ps_shared spSharedR) : FnOk P w K mg base (Fly P w) 2 f fd ps_in_lowest_terms (LSp K spLowest) := by
  refine okH F sc_in_lowest_terms (fun xs J Q E h => ?_) (fun cdv A outer s H E G E2 hr B => (rb_one (rs_ret (re_and (re_cmp oq_ge (re_ix iq_ix (rv 0) re_int) re_int) (re_one (re_cmp (oq_eq hr.units61) (re_fn C_shared B hr (ra_cons (re_ix iq_ix (rv 0) re_int) (ra_cons (re_ix iq_ix (rv 0) re_int) ra_nil))) re_int)))))) (fun xs J Q E2 h X hX => ?_)
  · obtain ⟨a, b, rfl, _⟩ := h; rfl
  obtain ⟨a, b, rfl, q⟩ := h
  refine hX ?_
  simp_all! []
  by_cases c : 1 ≤ b
  · simp only [c, decide_true, true_and, if_true] at q ⊢
    simp_all! [spSharedR]
    have : decide (((Int.gcd a b : Nat) : Int) = 1) = decide (Int.gcd a b = 1) := decide_eq_decide.mpr (by omega)
    rw [this]; exact q
  · simp only [c, decide_false, false_and] at q ⊢
    rw [if_neg (fun z => z)]
    exact q
def spNum (eN T : Addr) : Spr := fun xs J Q E => ∃ y : Str, xs = [.str y] ∧ y.length ≤ sizeLine ∧ J T = some .tab ∧ (∀ n : Int, n.natAbs < 10 ^ 12 → y = txt n → Q (.int n) J) ∧ ((∀ n : Int, n.natAbs < 10 ^ 12 → y ≠ txt n) → E eN J)
abbrev s_number_from : Stmt := (top 15)
abbrev ps_number_from : List Str := ["text"]
theorem sc_number_from : L2.FnScope ["text", "figures", "number"] ["text"] (L2.defScope s_number_from) := fsc
theorem ifq_seq {c : TTr} {a u : TSr} {D : En} {τ : Sr} {J : Hq} (b : Bool) (hc : ∀ R : Bool → Hq → Prop, R b J → c τ J R) (h1 : b = true → ∀ N, a { D with nx := N } τ J) (h2 : b = false → u D τ J) : rSeq (rIfS c a rNext) u D τ J := by
  refine hc _ ?_
  cases b with
  | true => rw [if_pos rfl]; exact h1 rfl _
  | false => rw [if_neg (by decide)]; exact h2 rfl
theorem okr_number_from {T f c eN : Addr} {fd : FuncData} (F : FunG K mg "number_from" s_number_from T f fd c) (Z : BltR mg) (Bm : BMain mg base) {t_MOST_FIGURES t_FIGURES : Tok} (g_MOST_FIGURES : mg "MOST_FIGURES" = some (.int 12 t_MOST_FIGURES)) (g_FIGURES : mg "FIGURES" = some (.str "0123456789" t_FIGURES)) (O_NoTale : Own K mg "NoTale" eN) : FnOk P w K mg base (Fly P w) 1 f fd ps_number_from (LSp K (spNum eN T)) := by
  refine okRG F sc_number_from (fun xs J Q E h => ?_) (fun A outer s H E G xs J Q E2 hr h B => ?_)
  · obtain ⟨y, rfl, _⟩ := h; rfl
  obtain ⟨y, rfl, hl, hT, q, qe⟩ := h
  refine ⟨_, (rb_cons (rs_set (i := 1) sc_number_from.nd (re_if (rt_val (re_bm PySem.F.plainAttrs_str PySem.F.slot_str_startswith PySem.F.type_str_startswith mq_startswith (rv 0) (ra_cons re_str ra_nil))) (re_slice sq_str (rv 0) (ro_some re_int) ro_none) (rv 0)))
      (rb_cons (rs_if (rw_rt (rw_or (rt_cmp oq_lt (re_callB cq_lenS rfl Z.len boot_len (ra_cons (rv 1) ra_nil)) re_int) (rw_or (rt_cmp oq_gt (re_callB cq_lenS rfl Z.len boot_len (ra_cons (rv 1) ra_nil)) (re_glob (v := .int 12) (.int 12) rfl g_MOST_FIGURES ⟨_, rfl⟩ (fun _ _ => rfl))) (rw_or1 (rt_not (rt_val (re_allIn rfl Bm rfl F.tab hr rfl Z.all g_FIGURES (rv 1)))))))) (rb_one (rs_raise O_NoTale rfl cxF_throws B.kn rfl (ra_cons re_str ra_nil))) rb_nil)
      (rb_cons (rs_set (i := 2) sc_number_from.nd (re_callTy cq_intS rfl Z.int boot_int (ra_cons (rv 0) ra_nil)))
      (rb_cons (rs_if (rt_cmp (oq_ne hr.units61) (re_callTy cq_str rfl Z.str boot_str (ra_cons (rv 2) ra_nil)) (rv 0)) (rb_one (rs_raise O_NoTale rfl cxF_throws B.kn rfl (ra_cons re_str ra_nil))) rb_nil)
      (rb_one (rs_ret (rv 2))))))), ?_⟩
  simp_all! [qStarts, qSlS]
  suffices hh : Nq [some (PV.str y), some (PV.str (figsOf y)), none] J by
    unfold figsOf at hh
    by_cases z : Txt.startswith y "-" = true
    · rw [if_pos z] at hh ⊢; exact ⟨hl, hh⟩
    · rw [if_neg z] at hh ⊢; exact hh
  refine hNq _ _ ?_
  clear hNq Nq
  have fl : (figsOf y).length ≤ sizeLine := by
    unfold figsOf; split
    · exact Nat.le_trans (Txt.slice_le y _ _) hl
    · exact hl
  refine ifq_seq (!(decide (1 ≤ (figsOf y).length) && decide ((figsOf y).length ≤ 12) && (figsOf y).cps.toList.all (signIn "0123456789"))) (fun R hR => ?_) (fun hb N => ?_) (fun hb => ?_)
  · simp_arith! [rSeq, qLenS, rAllIn, hT]
    refine ⟨fl, ?_⟩
    by_cases h1 : 1 ≤ (figsOf y).length
    · rw [if_neg (by omega)]
      refine ⟨fl, ?_⟩
      by_cases h2 : (figsOf y).length ≤ 12
      · rw [if_neg (by omega)]
        rw [decide_eq_true h1, decide_eq_true h2] at hR
        exact hR
      · rw [if_pos (by omega)]
        rw [decide_eq_false h2, Bool.and_false] at hR
        exact hR
    · rw [if_pos (by omega)]
      rw [decide_eq_false h1] at hR
      exact hR
  · simp_arith! [rSeq, rRaise]
    refine qe fun n hn e => ?_
    subst e
    obtain ⟨⟨h1, h2, h3⟩, _⟩ := num_yes hn
    rw [decide_eq_true h1, decide_eq_true h2, h3] at hb
    cases hb
  have ok : figsOk y := by
    simp only [Bool.not_eq_false', Bool.and_eq_true, decide_eq_true_eq] at hb
    exact ⟨hb.1.1, hb.1.2, hb.2⟩
  obtain ⟨l13, m, hm, hm12⟩ := num_some ok
  simp_all! [qIntS, hm]
  refine ⟨Nat.le_trans l13 (by decide), ?_⟩
  refine hNq _ _ ?_
  clear hNq Nq
  refine ifq_seq (!decide (txt m = y)) (fun R hR => ?_) (fun hb N => ?_) (fun hb => ?_)
  · simp_arith! [rSeq, qStr]
    exact ⟨log_of (Nat.lt_of_lt_of_le hm12 (by decide)), hR⟩
  · simp_arith! [rSeq, rRaise]
    refine qe fun n hn e => ?_
    subst e
    have := (num_yes hn).2
    rw [hm] at this
    cases this
    rw [decide_eq_true rfl] at hb; cases hb
  simp_arith! [rSeq]
  exact q m hm12 (by have : txt m = y := by simpa using hb
                     exact this.symm)
def spNameF (eN T : Addr) : Spr := fun xs J Q E => ∃ y : Str, xs = [.str y] ∧ y.length ≤ sizeLine ∧ J T = some .tab ∧ (good y = true → Q (.str y) J) ∧ (good y = false → E eN J)
abbrev s_name_from : Stmt := (top 14)
abbrev ps_name_from : List Str := ["text"]
theorem sc_name_from : L2.FnScope ["text"] ["text"] (L2.defScope s_name_from) := fsc
theorem okr_name_from {T eN f : Addr} {fd : FuncData} (F : Fun K "name_from" "name_from" s_name_from f fd) (Z : BltR mg) (O_NoTale : Own K mg "NoTale" eN) (C_good_name : CanR P w K mg base 1 "good_name" ps_good_name (spGoodR T)) : FnOk P w K mg base (Fly P w) 2 f fd ps_name_from (LSp K (spNameF eN T)) := by
  refine okH F sc_name_from (fun xs J Q E h => ?_) (fun cdv A outer s H E G E2 hr B => (rb_cons (rs_if (rt_not (rt_val (re_fn C_good_name B hr (ra_cons (rv 0) ra_nil)))) (rb_one (rs_raise O_NoTale rfl cxF_throws B.kn rfl (ra_cons re_str ra_nil))) rb_nil)
      (rb_one (rs_ret (rv 0))))) (fun xs J Q E2 h X hX => ?_)
  · obtain ⟨y, rfl, _⟩ := h; rfl
  obtain ⟨y, rfl, hl, hT, q, qe⟩ := h
  refine hX ?_
  refine ifq_seq (!good y) (fun R hR => ?_) (fun hb N => ?_) (fun hb => ?_)
  · simp_arith! [rSeq]
    exact ⟨y, rfl, hl, hT, hR⟩
  · simp_arith! [rSeq, rRaise]
    exact qe (by simpa using hb)
  simp_arith! [rSeq]
  exact q (by simpa using hb)
def TimeOk (q : Rat) : Prop := 0 ≤ q.num ∧ q.num.natAbs < 10 ^ 12 ∧ q.den < 10 ^ 12
def timeTx (q : Rat) : Str := txt q.num ++ ("/" : Str) ++ txt q.den
theorem no_sign {i : Int} {c : Nat} (h : c ≠ 45 ∧ (c < 48 ∨ 57 < c)) : c ∉ (txt i).cps.toList := fun hc => by
  have := txt_signs i c hc; omega
theorem time_split (q : Rat) : Txt.split (timeTx q) ("/" : Str) = [txt q.num, txt q.den] := by
  rw [slash_is]
  refine split_uniq (by simp) (fun p hp => ?_) ?_
  · simp only [List.mem_cons, List.not_mem_nil, or_false] at hp
    rcases hp with rfl | rfl <;> exact no_sign (by omega)
  · unfold timeTx; rw [slash_is]; rfl
theorem split_time {y a b : Str} (h : Txt.split y ("/" : Str) = [a, b]) : y = a ++ ("/" : Str) ++ b := by
  have := PySem.StrLaws.join_split y ("/" : Str); rw [h] at this; exact this.symm
def spMoF (eN T : Addr) : Spr := fun xs J Q E => ∃ y : Str, xs = [.str y] ∧ y.length + 2 ≤ sizeLine ∧ J T = some .tab ∧ (∀ q : Rat, TimeOk q → y = timeTx q → Q (fr q) J) ∧ ((∀ q : Rat, TimeOk q → y ≠ timeTx q) → E eN J)
abbrev s_moment_from : Stmt := (top 16)
abbrev ps_moment_from : List Str := ["text"]
theorem sc_moment_from : L2.FnScope ["text", "parts", "moment"] ["text"] (L2.defScope s_moment_from) := fsc
theorem okr_moment_from {T eN f : Addr} {fd : FuncData} (F : Fun K "moment_from" "moment_from" s_moment_from f fd) (Z : BltR mg) (O_NoTale : Own K mg "NoTale" eN) (C_number_from : CanR P w K mg base 1 "number_from" ps_number_from (spNum eN T)) (C_in_lowest_terms : CanR P w K mg base 2 "in_lowest_terms" ps_in_lowest_terms spLowest) : FnOk P w K mg base (Fly P w) 3 f fd ps_moment_from (LSp K (spMoF eN T)) := by
  refine okH F sc_moment_from (fun xs J Q E h => ?_) (fun cdv A outer s H E G E2 hr B => (rb_cons (rs_set (i := 1) sc_moment_from.nd (re_bm PySem.F.plainAttrs_str PySem.F.slot_str_split PySem.F.type_str_split mq_split (rv 0) (ra_cons re_str ra_nil)))
      (rb_cons (rs_if (rt_cmp (oq_ne hr.units61) (re_callB cq_len rfl Z.len boot_len (ra_cons (rv 1) ra_nil)) re_int) (rb_one (rs_raise O_NoTale rfl cxF_throws B.kn rfl (ra_cons re_str ra_nil))) rb_nil)
      (rb_cons (rs_set (i := 2) sc_moment_from.nd (re_tup (ra_cons (re_fn C_number_from B hr (ra_cons (re_ix iq_ix (rv 1) re_int) ra_nil)) (ra_cons (re_fn C_number_from B hr (ra_cons (re_ix iq_ix (rv 1) re_int) ra_nil)) ra_nil))))
      (rb_cons (rs_if (rw_rt (rw_or (rt_cmp oq_lt (re_ix iq_ix (rv 2) re_int) re_int) (rw_or1 (rt_not (rt_val (re_fn C_in_lowest_terms B hr (ra_cons (rv 2) ra_nil))))))) (rb_one (rs_raise O_NoTale rfl cxF_throws B.kn rfl (ra_cons re_str ra_nil))) rb_nil)
      (rb_one (rs_ret (rv 2)))))))) (fun xs J Q E2 h X hX => ?_)
  · obtain ⟨y, rfl, _⟩ := h; rfl
  obtain ⟨y, rfl, hl, hT, q, qe⟩ := h
  refine hX ?_
  have l47 : (("/" : Str).length == 0) = false := by decide +kernel
  simp_all! [qSplit, l47]
  refine ⟨hl, hNq _ _ ?_⟩
  clear hNq Nq
  have hsub : ∀ p ∈ Txt.split y ("/" : Str), p.length ≤ sizeLine := fun p hp => Nat.le_trans (part_short hp) (by omega)
  by_cases hn : (Txt.split y ("/" : Str)).length = 2
  rotate_left
  · refine ifq_seq true (fun R hR => ?_) (fun hb N => ?_) (fun hb => nomatch hb)
    · simp_arith! [rSeq, List.length_map]
      rw [decide_eq_false (by omega)]; exact hR
    · simp_arith! [rSeq, rRaise]
      refine qe fun z hz e => hn ?_
      rw [e, time_split]; rfl
  obtain ⟨a, b, hab⟩ : ∃ a b, Txt.split y ("/" : Str) = [a, b] := by
    generalize Txt.split y ("/" : Str) = l at hn
    match l, hn with
    | [a, b], _ => exact ⟨a, b, rfl⟩
  have hs : ∀ z, TimeOk z → y = timeTx z → a = txt z.num ∧ b = txt z.den := fun z hz e => by
    rw [e, time_split] at hab
    injection hab with h1 h2
    injection h2 with h2 _
    exact ⟨h1.symm, h2.symm⟩
  have hla := hsub a (by rw [hab]; simp)
  have hlb := hsub b (by rw [hab]; simp)
  rw [hab]
  refine ifq_seq false (fun R hR => ?_) (fun hb N => nomatch hb) (fun hb => ?_)
  · simp_arith! [rSeq]; exact hR
  simp_all! []
  refine ⟨a, rfl, hla, hT, fun n hn1 ea => ⟨b, rfl, hlb, hT, fun m hm1 eb => hNq _ _ ?_, fun he => qe fun z hz e => he z.den (by have := hz.2.2; simpa using this) (hs z hz e).2⟩, fun he => qe fun z hz e => he z.num hz.2.1 (hs z hz e).1⟩
  clear hNq Nq
  refine ifq_seq (!decide (0 ≤ n ∧ 1 ≤ m ∧ Int.gcd n m = 1)) (fun R hR => ?_) (fun hb N => ?_) (fun hb => ?_)
  · simp_arith! [rSeq]
    by_cases c1 : n < 0
    · rw [if_pos c1]
      rw [decide_eq_false (fun z => by omega)] at hR; exact hR
    · rw [if_neg c1]
      refine ⟨n, m, rfl, ?_⟩
      have : decide (1 ≤ m ∧ Int.gcd n m = 1) = decide (0 ≤ n ∧ 1 ≤ m ∧ Int.gcd n m = 1) := decide_eq_decide.mpr ⟨fun z => ⟨by omega, z⟩, fun z => z.2⟩
      simp only [this]
      exact hR
  · simp_arith! [rSeq, rRaise]
    have hb : ¬ (0 ≤ n ∧ 1 ≤ m ∧ Int.gcd n m = 1) := by rw [Bool.not_eq_true', decide_eq_false_iff_not] at hb; exact hb
    refine qe fun z hz e => hb ?_
    obtain ⟨h1, h2⟩ := hs z hz e
    have h3 := txt_inj hn1 (ea.symm.trans h1) hz.2.1
    have h4 := txt_inj hm1 (eb.symm.trans h2) (by have := hz.2.2; simpa using this)
    subst h3 h4
    refine ⟨hz.1, by have := z.den_pos; omega, ?_⟩
    have := z.reduced
    unfold Int.gcd; simpa using this
  have hb : 0 ≤ n ∧ 1 ≤ m ∧ Int.gcd n m = 1 := by simpa using hb
  simp_arith! [rSeq]
  obtain ⟨k, rfl⟩ := Int.eq_ofNat_of_zero_le (show 0 ≤ m by omega)
  have hz : TimeOk ⟨n, k, by omega, by have := hb.2.2; unfold Int.gcd at this; simpa using this⟩ := ⟨hb.1, hn1, by simpa using hm1⟩
  exact q _ hz (by rw [split_time hab, ea, eb]; rfl)
def Deed.its : Deed → List PV
  | .join n p v => [.str n, .int p, .int v]
  | .turn n v => [.str n, .int v]
  | .leave n => [.str n]
  | .about => []
  | .watch m ns => [.str m, .tup (ns.map .str)]
  | .unwatch m => [.str m]
  | .go q => [fr q]
def Deed.V (d : Deed) : PV := .tup (.str d.head :: d.its)
def Deed.plain : Deed → Bool
  | .go _ => false
  | .watch .. => false
  | _ => true
theorem its_ok {d : Deed} (o : d.Ok) (hp : d.plain = true) : d.its.length = d.rest.length ∧ ∀ (i : Nat) x, d.its[i]? = some x → (∃ j : Int, x = .int j ∧ j.natAbs < 10 ^ 13 ∧ d.rest[i]? = some (txt j)) ∨ ∃ s, x = .str s ∧ d.rest[i]? = some s := by
  have hn := o.nums
  cases d with
  | join n p v =>
    refine ⟨rfl, fun i x h => ?_⟩
    rcases i with _ | _ | _ | i
    · cases h; exact .inr ⟨n, rfl, rfl⟩
    · cases h; exact .inl ⟨p, rfl, hn.1, rfl⟩
    · cases h; exact .inl ⟨v, rfl, hn.2, rfl⟩
    · simp [Deed.its] at h
  | turn n v =>
    refine ⟨rfl, fun i x h => ?_⟩
    rcases i with _ | _ | i
    · cases h; exact .inr ⟨n, rfl, rfl⟩
    · cases h; exact .inl ⟨v, rfl, hn, rfl⟩
    · simp [Deed.its] at h
  | leave n =>
    refine ⟨rfl, fun i x h => ?_⟩
    rcases i with _ | i
    · cases h; exact .inr ⟨n, rfl, rfl⟩
    · simp [Deed.its] at h
  | unwatch n =>
    refine ⟨rfl, fun i x h => ?_⟩
    rcases i with _ | i
    · cases h; exact .inr ⟨n, rfl, rfl⟩
    · simp [Deed.its] at h
  | about => exact ⟨rfl, fun i x h => by simp [Deed.its] at h⟩
  | watch m ns => cases hp
  | go q => cases hp
theorem head_go (d : Deed) : (d.head = ("go" : Str)) = (match d with | .go _ => True | _ => False) := by cases d <;> simp only [Deed.head, eq_iff_iff, iff_true, iff_false] <;> decide +kernel
theorem head_watch (d : Deed) : (d.head = ("watch" : Str)) = (match d with | .watch .. => True | _ => False) := by cases d <;> simp only [Deed.head, eq_iff_iff, iff_true, iff_false] <;> decide +kernel
theorem nil_app (a : Str) : Str.empty ++ a = a := by
  show (⟨#[] ++ a.cps⟩ : Str) = a
  rw [Array.empty_append]
theorem head_len (d : Deed) : d.head.length ≤ 30 := by cases d <;> (simp only [Deed.head]; decide +kernel)
theorem line_plain {d : Deed} (hp : d.plain = true) : d.line = spaced d.head d.rest := by cases d <;> first | rfl | cases hp
section
variable {X : Cx}
def qListT : RLr := fun xs J Q => ∃ ys, xs = [.tup ys] ∧ Q (.fl ys) J
theorem cq_listT : CaL X (.type "list") qListT := ⟨_, L2.call_list_of, fun J H xs vs Q2 Q rs r ⟨ys, ex, q⟩ k => by
  subst ex; obtain ⟨v, us, rfl, rv, e⟩ := rs; cases e
  obtain ⟨a, ws, rfl, h3, h4⟩ := rv
  refine ⟨a, ws, rfl, .inr h3, fun p hp => ?_⟩
  obtain ⟨x1, x2, x3⟩ := new_fl r h4 hp
  exact k _ J _ _ x1 x2 x3 q⟩
end
def asT : PV → PV
  | .int i => .str (txt i)
  | x => x
abbrev s_line_of : Stmt := (top 13)
abbrev ps_line_of : List Str := ["deed"]
theorem sc_line_of : L2.FnScope ["deed", "word", "top", "bottom"] ["deed"] (L2.defScope s_line_of) := fsc
def spLineOf : Spr := fun xs J Q _ => ∃ d : Deed, xs = [d.V] ∧ d.Ok ∧ Q (.str d.line) J
theorem okr_line_of {f : Addr} {fd : FuncData} (F : Fun K "line_of" "line_of" s_line_of f fd) (Z : BltR mg) : FnOk P w K mg base (Fly P w) 1 f fd ps_line_of (LSp K spLineOf) := by
  refine okH F sc_line_of (fun xs J Q E h => ?_) (fun cdv A outer s H E G E2 hr B => (rb_cons (rs_set (i := 1) sc_line_of.nd (re_ix iq_ix (rv 0) re_int))
      (rb_cons (rs_if (rt_cmp (oq_eq hr.units61) (rv 1) re_str) (rb_cons (rs_asg (re_ix iq_ix (rv 0) re_int) (rg_tup (n := 2) rfl (rgs_cons (rg_name (i := 2) sc_line_of.nd) (rgs_cons (rg_name (i := 3) sc_line_of.nd) rgs_nil))))
      (rb_one (rs_ret (re_joined (rj_cons re_str (rj_cons (re_fmt (rv 2)) (rj_cons re_str (rj_cons (re_fmt (rv 3)) rj_nil)))))))) rb_nil)
      (rb_cons (rs_if (rt_cmp (oq_eq hr.units61) (rv 1) re_str) (rb_one (rs_ret (re_bm PySem.F.plainAttrs_str PySem.F.slot_str_join PySem.F.type_str_join mq_join re_str (ra_cons (re_op oq_catF (re_fl (ra_cons re_str (ra_cons (re_ix iq_ix (rv 0) re_int) ra_nil))) (re_callTy cq_listT rfl Z.list boot_list (ra_cons (re_ix iq_ix (rv 0) re_int) ra_nil))) ra_nil)))) rb_nil)
      (rb_one (rs_ret (re_bm PySem.F.plainAttrs_str PySem.F.slot_str_join PySem.F.type_str_join mq_join re_str (ra_cons (re_lc (L2.defScope s_line_of) ["deed", "word", "top", "bottom"] [] rfl rfl rfl (ri_tup (rv 0)) (fun _ _ _ _ _ _ => (re_callTy cq_str rfl Z.str boot_str (ra_cons (rv 0) ra_nil)))) ra_nil)))))))) (fun xs J Q E2 h X hX => ?_)
  · obtain ⟨d, rfl, _⟩ := h; rfl
  obtain ⟨d, rfl, o, q⟩ := h
  refine hX ?_
  have h0 : ixQ J d.V (.int 0) = some (.str d.head) := atI_0 _ _
  have shape : (∃ q, d = .go q) ∨ (∃ m ns, d = .watch m ns) ∨ d.plain = true := by cases d <;> simp [Deed.plain]
  rcases shape with ⟨z, rfl⟩ | ⟨m, ns, rfl⟩ | hp
  · have e1 : eqQ (.str (Deed.go z).head) (.str "go") = true := eq_self _
    have h1 : ixQ J (Deed.go z).V (.int 1) = some (fr z) := atI_1 _ _ _
    simp_all! [h0, e1, h1]
    refine ⟨rfl, hNq _ _ ?_⟩
    clear hNq Nq
    have hn := o.nums
    have l1 := txt_len hn.1
    have l2 : (txt (z.den : Int)).length ≤ 30 := txt_len (by simpa using hn.2)
    simp_arith! [rSeq, rjCons, rFmt, rjNil, or_false, nil_app]
    have lg : (("go " : Str)).length = 3 := by decide +kernel
    have ls : (("/" : Str)).length = 1 := by decide +kernel
    simp only [app_len, lg, ls]
    refine ⟨le_line (by decide), log_of hn.1, le_line (by show 3 + (txt z.num).length ≤ 1000; omega), le_line (by show 3 + (txt z.num).length + 1 ≤ 1000; omega), log_of (by simpa using hn.2), le_line (by show 3 + (txt z.num).length + 1 + (txt (z.den : Int)).length ≤ 1000; omega), ?_⟩
    exact ⟨le_line (by show 3 + (txt z.num).length + 1 + (txt (z.den : Int)).length ≤ 1000; omega), q⟩
  · have e1 : eqQ (.str (Deed.watch m ns).head) (.str "go") = false := by rw [eq_str]; exact decide_eq_false fun h => Eq.mp (head_go (.watch m ns)) h
    have e2 : eqQ (.str (Deed.watch m ns).head) (.str "watch") = true := eq_self _
    have h1 : ixQ J (Deed.watch m ns).V (.int 1) = some (.str m) := atI_1 _ _ _
    have h2 : ixQ J (Deed.watch m ns).V (.int 2) = some (.tup (ns.map .str)) := atI_2 _ _ _ _
    simp_all! [h0, e1, e2, h1, h2, qListT, qJoin]
    rw [List.length_map]
    have hw := o.ws
    have hl : ns.length + 1 ≤ 20 := o.len
    refine ⟨le_line (by omega), ("watch" : Str) :: m :: ns, rfl, ?_, ?_⟩
    · rw [sp_len]
      have hm : m.length ≤ 30 := hw m (by simp [Deed.rest])
      have hs : ∀ (l : List Str), (∀ y ∈ l, y.length ≤ 30) → (l.map fun x => x.length).sum ≤ l.length * 30 := by
        intro l
        induction l with
        | nil => intro _; simp
        | cons y l ih => intro h; rw [List.map_cons, List.sum_cons, List.length_cons, Nat.succ_mul]; have := ih (fun z hz => h z (List.mem_cons_of_mem _ hz)); have := h y List.mem_cons_self; omega
      have h1 := hs ns (fun y hy => hw y (by simp [Deed.rest, hy]))
      have h2 : (("watch" : Str)).length = 5 := by decide +kernel
      simp only [List.map_cons, List.sum_cons, List.length_cons, h2]
      omega
    · rw [join_spaced]; exact q
  · have e1 : eqQ (.str d.head) (.str "go") = false := by rw [eq_str]; exact decide_eq_false fun h => by have h' := Eq.mp (head_go d) h; cases d <;> first | exact h' | cases hp
    have e2 : eqQ (.str d.head) (.str "watch") = false := by rw [eq_str]; exact decide_eq_false fun h => by have h' := Eq.mp (head_watch d) h; cases d <;> first | exact h' | cases hp
    simp_all! [h0, e1, e2, rLCf, Deed.V]
    obtain ⟨hlen, hit⟩ := its_ok o hp
    have hw := o.ws
    have hl := o.len
    refine ⟨fun _ => true, asT, ⟨small1000 (by rw [List.length_cons]; omega), fun J' _ => ⟨trivial, fun x hx => ⟨⟨rfl, rfl⟩, fun _ => ?_⟩⟩⟩, ?_⟩
    · simp_arith! [rSeq, qStr]
      rcases List.mem_cons.mp hx with rfl | hx
      · exact .inr ⟨_, rfl, rfl⟩
      · obtain ⟨i, hi⟩ := List.mem_iff_getElem?.mp hx
        rcases hit i x hi with ⟨j, rfl, hj, _⟩ | ⟨s', rfl, _⟩
        · exact .inl ⟨j, rfl, log_of hj, rfl⟩
        · exact .inr ⟨s', rfl, rfl⟩
    have em : ((PV.str d.head :: d.its).filter fun _ => true).map asT = (d.head :: d.rest).map .str := by
      rw [List.filter_eq_self.mpr fun _ _ => rfl, List.map_cons, List.map_cons]
      congr 1
      apply List.ext_getElem?
      intro i
      rw [List.getElem?_map, List.getElem?_map]
      cases hi : d.its[i]? with
      | none =>
        have : d.rest[i]? = none := by rw [List.getElem?_eq_none_iff] at hi ⊢; omega
        rw [this]; rfl
      | some x =>
        rcases hit i x hi with ⟨j, rfl, _, hr⟩ | ⟨s', rfl, hr⟩
        · rw [hr]; rfl
        · rw [hr]; rfl
    rw [em]
    refine ⟨_, _, d.head :: d.rest, rfl, rfl, rfl, ?_, ?_⟩
    · rw [sp_len]
      have hs : ∀ (l : List Str), (∀ y ∈ l, y.length ≤ 30) → (l.map fun x => x.length).sum ≤ l.length * 30 := by
        intro l
        induction l with
        | nil => intro _; simp
        | cons y l ih => intro h; rw [List.map_cons, List.sum_cons, List.length_cons, Nat.succ_mul]; have := ih (fun z hz => h z (List.mem_cons_of_mem _ hz)); have := h y List.mem_cons_self; omega
      have h1 := hs d.rest hw
      have h2 := head_len d
      simp only [List.map_cons, List.sum_cons, List.length_cons]
      omega
    · rw [join_spaced]; rw [line_plain hp] at q; exact q
abbrev s_line : Stmt := (top 25)
abbrev ps__law_line : List Str := ["_law_deed"]
theorem sc_line : L2.FnScope ["_law_deed", "_law_line_here", "_law_name", "_law_k"] ["_law_deed"] (L2.defScope s_line) := fsc
theorem okr_line {f : Addr} {fd : FuncData} (F : Fun K "_law_line" "_law_line" s_line f fd) (Z : BltR mg) : FnOk P w K mg base (Fly P w) 1 f fd ps__law_line (LSp K spLineOf) := by
  refine okH F sc_line (fun xs J Q E h => ?_) (fun cdv A outer s H E G E2 hr B => (rb_cons (rs_if (rt_cmp (oq_eq hr.units61) (re_ix iq_ix (rv 0) re_int) re_str) (rb_one (rs_ret (re_op oq_addS (re_op oq_addS (re_op oq_addS re_str (re_callTy cq_str rfl Z.str boot_str (ra_cons (re_ix iq_ix (re_ix iq_ix (rv 0) re_int) re_int) ra_nil))) re_str) (re_callTy cq_str rfl Z.str boot_str (ra_cons (re_ix iq_ix (re_ix iq_ix (rv 0) re_int) re_int) ra_nil))))) rb_nil)
      (rb_cons (rs_set (i := 1) sc_line.nd (re_ix iq_ix (rv 0) re_int))
      (rb_cons (rs_if (rt_cmp (oq_eq hr.units61) (re_ix iq_ix (rv 0) re_int) re_str) (rb_cons (rs_set (i := 1) sc_line.nd (re_op oq_addS (re_op oq_addS (rv 1) re_str) (re_ix iq_ix (rv 0) re_int)))
      (rb_cons (rs_for cxF_own rfl (ri_tup (re_ix iq_ix (rv 0) re_int)) (rg_name (i := 2) sc_line.nd) (rb_one (rs_set (i := 1) sc_line.nd (re_op oq_addS (re_op oq_addS (rv 1) re_str) (rv 2)))))
      (rb_one (rs_ret (rv 1))))) rb_nil)
      (rb_cons (rs_for cxF_own rfl (ri_range2 rfl Z.range (ra_cons re_int (ra_cons (re_callB cq_len rfl Z.len boot_len (ra_cons (rv 0) ra_nil)) ra_nil))) (rg_name (i := 3) sc_line.nd) (rb_one (rs_set (i := 1) sc_line.nd (re_op oq_addS (re_op oq_addS (rv 1) re_str) (re_callTy cq_str rfl Z.str boot_str (ra_cons (re_ix iq_ix (rv 0) (rv 3)) ra_nil))))))
      (rb_one (rs_ret (rv 1)))))))) (fun xs J Q E2 h X hX => ?_)
  · obtain ⟨d, rfl, _⟩ := h; rfl
  obtain ⟨d, rfl, o, q⟩ := h
  refine hX ?_
  have h0 : ixQ J d.V (.int 0) = some (.str d.head) := atI_0 _ _
  have lg : (("go " : Str)).length = 3 := by decide +kernel
  have ls : (("/" : Str)).length = 1 := by decide +kernel
  have shape : (∃ q, d = .go q) ∨ (∃ m ns, d = .watch m ns) ∨ d.plain = true := by cases d <;> simp [Deed.plain]
  rcases shape with ⟨z, rfl⟩ | ⟨m, ns, rfl⟩ | hp
  · have e1 : eqQ (.str (Deed.go z).head) (.str "go") = true := eq_self _
    have h1 : ixQ J (Deed.go z).V (.int 1) = some (fr z) := atI_1 _ _ _
    have hn := o.nums
    have l1 := txt_len hn.1
    have l2 : (txt (z.den : Int)).length ≤ 30 := txt_len (by simpa using hn.2)
    simp_arith! [rSeq, h0, e1, h1, qAddS, qStr, or_false, app_len, lg, ls]
    exact ⟨log_of hn.1, le_line (by show 3 + (txt z.num).length ≤ 1000; omega), le_line (by show 3 + (txt z.num).length + 1 ≤ 1000; omega), log_of (by simpa using hn.2), le_line (by show 3 + (txt z.num).length + 1 + (txt (z.den : Int)).length ≤ 1000; omega), q⟩
  · have e1 : eqQ (.str (Deed.watch m ns).head) (.str "go") = false := by rw [eq_str]; exact decide_eq_false fun h => Eq.mp (head_go (.watch m ns)) h
    have e2 : eqQ (.str (Deed.watch m ns).head) (.str "watch") = true := eq_self _
    have h1 : ixQ J (Deed.watch m ns).V (.int 1) = some (.str m) := atI_1 _ _ _
    have h2 : ixQ J (Deed.watch m ns).V (.int 2) = some (.tup (ns.map .str)) := atI_2 _ _ _ _
    simp_arith! [rSeq, h0, e1, e2, h1, h2, qAddS]
    have hw := o.ws
    have hl : ns.length + 1 ≤ 20 := o.len
    have hm : m.length ≤ 30 := hw m (by simp [Deed.rest])
    have hns : ∀ y ∈ ns, y.length ≤ 60 := fun y hy => Nat.le_trans (hw y (by simp [Deed.rest, hy])) (by decide)
    have hh : (Deed.watch m ns).head.length = 5 := by show (("watch" : Str)).length = 5; decide +kernel
    have lx : ((Deed.watch m ns).head ++ (" " : Str) ++ m).length ≤ 60 := by rw [app_len, app_len, sp_len, hh]; omega
    refine ⟨le_line (by rw [sp_len, hh]; decide), le_line (by rw [app_len, sp_len, hh]; omega), ?_⟩
    obtain ⟨Inv, hInv⟩ : ∃ Inv : Nat → Sr → Hq → Prop, ∀ i τ J', Inv i τ J' ↔ ∃ (u2 u3 : Option PV), τ = [some (Deed.watch m ns).V, some (.str (spaced ((Deed.watch m ns).head ++ (" " : Str) ++ m) (ns.take i))), u2, u3] ∧ J' = J := ⟨_, fun _ _ _ => Iff.rfl⟩
    refine for_ls Inv ((hInv _ _ _).mpr ⟨_, _, rfl, rfl⟩) (fun _ _ _ _ => trivial) ?_ ?_
    · intro i y τ J' hy hv
      obtain ⟨u2, u3, rfl, rfl⟩ := (hInv _ _ _).mp hv
      have hi : i < ns.length := by have := (List.getElem?_eq_some_iff.mp hy).1; simpa using this
      rw [List.getElem?_map, List.getElem?_eq_getElem hi] at hy
      cases hy
      have et : ns.take (i + 1) = ns.take i ++ [ns[i]] := by rw [List.take_add_one, List.getElem?_eq_getElem hi]; rfl
      have ll := spaced_len (ys := ns.take i) lx (fun y hy => hns y (List.mem_of_mem_take hy))
      rw [List.length_take] at ll
      have hmul : min i ns.length * 61 ≤ 20 * 61 := Nat.mul_le_mul_right _ (by omega)
      have ly := hns _ (List.getElem_mem hi)
      simp_arith! [rSeq, qAddS, app_len, sp_len]
      refine ⟨Nat.le_trans (show _ ≤ 60 + 20 * 61 + 1 by omega) (by decide), Nat.le_trans (show _ ≤ 60 + 20 * 61 + 1 + 60 by omega) (by decide), ?_⟩
      exact (hInv _ _ _).mpr ⟨_, _, by rw [et, spaced_snoc], rfl⟩
    · intro τ J' hv
      obtain ⟨u2, u3, rfl, rfl⟩ := (hInv _ _ _).mp hv
      rw [List.length_map, List.take_length]
      simp_arith! [rSeq]
      exact q
  · have e1 : eqQ (.str d.head) (.str "go") = false := by rw [eq_str]; exact decide_eq_false fun h => by have h' := Eq.mp (head_go d) h; cases d <;> first | exact h' | cases hp
    have e2 : eqQ (.str d.head) (.str "watch") = false := by rw [eq_str]; exact decide_eq_false fun h => by have h' := Eq.mp (head_watch d) h; cases d <;> first | exact h' | cases hp
    simp_all! [h0, e1, e2]
    obtain ⟨hlen, hit⟩ := its_ok o hp
    have hw : ∀ y ∈ d.rest, y.length ≤ 60 := fun y hy => Nat.le_trans (o.ws y hy) (by decide)
    have hl := o.len
    have lx : d.head.length ≤ 60 := Nat.le_trans (head_len d) (by decide)
    refine onS_in (show lenQ J d.V = some (d.its.length + 1) from rfl) ⟨⟨by decide, by decide, by omega, by omega⟩, ?_⟩
    have e3 : (((d.its.length + 1 : Nat) : Int) - 1).toNat = d.rest.length := by omega
    rw [e3]
    obtain ⟨Inv, hInv⟩ : ∃ Inv : Nat → Sr → Hq → Prop, ∀ i τ J', Inv i τ J' ↔ ∃ (u2 u3 : Option PV), τ = [some d.V, some (.str (spaced d.head (d.rest.take i))), u2, u3] ∧ J' = J := ⟨_, fun _ _ _ => Iff.rfl⟩
    refine for_rng Inv ((hInv _ _ _).mpr ⟨_, _, rfl, rfl⟩) ?_ ?_
    · intro i τ J' hi hv
      obtain ⟨u2, u3, rfl, rfl⟩ := (hInv _ _ _).mp hv
      obtain ⟨x, hx⟩ : ∃ x, d.its[i]? = some x := ⟨_, List.getElem?_eq_getElem (by omega)⟩
      have ha : ixQ J' d.V (.int (1 + (i : Int))) = some x := by
        show atI (PV.str d.head :: d.its) (1 + (i : Int)) = some x
        rw [show 1 + (i : Int) = ((i + 1 : Nat) : Int) by omega]
        exact atI_nat (by rw [List.getElem?_cons_succ]; exact hx)
      have et : d.rest.take (i + 1) = d.rest.take i ++ [d.rest[i]] := by rw [List.take_add_one, List.getElem?_eq_getElem hi]; rfl
      have ll := spaced_len (ys := d.rest.take i) lx (fun y hy => hw y (List.mem_of_mem_take hy))
      rw [List.length_take] at ll
      have hmul : min i d.rest.length * 61 ≤ 20 * 61 := Nat.mul_le_mul_right _ (by omega)
      have ly := hw _ (List.getElem_mem hi)
      have fin : ∀ y : Str, d.rest[i]? = some y → (spaced d.head (d.rest.take i) ++ (" " : Str)).length + y.length ≤ sizeLine ∧ Inv (i + 1) [some d.V, some (.str (spaced d.head (d.rest.take i) ++ (" " : Str) ++ y)), u2, some (.int (1 + (i : Int)))] J' := fun y hy => by
        have : y = d.rest[i] := by rw [List.getElem?_eq_getElem hi] at hy; exact (Option.some.inj hy).symm
        subst this
        refine ⟨?_, (hInv _ _ _).mpr ⟨_, _, by rw [et, spaced_snoc], rfl⟩⟩
        rw [app_len, sp_len]
        exact Nat.le_trans (show _ ≤ 60 + 20 * 61 + 1 + 60 by omega) (by decide)
      simp_arith! [rSeq, ha, qAddS, qStr]
      refine ⟨by rw [sp_len]; exact Nat.le_trans (show _ ≤ 60 + 20 * 61 + 1 by omega) (by decide), ?_⟩
      rcases hit i x hx with ⟨j, rfl, hj, hr⟩ | ⟨s', rfl, hr⟩
      · exact .inl ⟨j, rfl, log_of hj, fin _ hr⟩
      · exact .inr ⟨s', rfl, fin _ hr⟩
    · intro τ J' hv
      obtain ⟨u2, u3, rfl, rfl⟩ := (hInv _ _ _).mp hv
      rw [List.take_length]
      refine hNq _ _ ?_
      simp_arith! [rSeq]
      rw [line_plain hp] at q
      exact q
def Deed.Good : Deed → Prop
  | .join n p v => good n = true ∧ p.natAbs < 10 ^ 12 ∧ v.natAbs < 10 ^ 12
  | .turn n v => good n = true ∧ v.natAbs < 10 ^ 12
  | .leave n => good n = true
  | .about => True
  | .watch m ns => good m = true ∧ ∀ n ∈ ns, good n = true
  | .unwatch m => good m = true
  | .go q => TimeOk q
theorem good_no {n : Str} {c : Nat} (hg : good n = true) (hc : signIn alphabet36 c = false) : c ∉ n.cps.toList := fun h => by
  unfold good at hg
  rw [Bool.and_eq_true] at hg
  have := List.all_eq_true.mp hg.2 c h
  rw [hc] at this; cases this
theorem no32 : signIn alphabet36 32 = false := by decide +kernel
theorem good_len {n : Str} (hg : good n = true) : n.length ≤ 8 := by
  unfold good at hg
  rw [Bool.and_eq_true, Bool.and_eq_true] at hg
  exact of_decide_eq_true hg.1.2
theorem words_free {d : Deed} (g : d.Good) : ∀ p ∈ d.words, 32 ∉ p.cps.toList := by
  have hd : ∀ d : Deed, 32 ∉ d.head.cps.toList := fun d => by cases d <;> (simp only [Deed.head]; decide +kernel)
  have tx : ∀ i : Int, 32 ∉ (txt i).cps.toList := fun i => no_sign (by omega)
  have go : ∀ d : Deed, (∀ p ∈ d.rest, 32 ∉ p.cps.toList) → d.words = d.head :: d.rest → ∀ p ∈ d.words, 32 ∉ p.cps.toList := fun d h e p hp => by
    rw [e] at hp
    rcases List.mem_cons.mp hp with rfl | hp
    · exact hd d
    · exact h p hp
  cases d with
  | join n p v => refine go _ (fun x hx => ?_) rfl; simp only [Deed.rest, List.mem_cons, List.not_mem_nil, or_false] at hx
                  rcases hx with rfl | rfl | rfl
                  · exact good_no g.1 no32
                  · exact tx _
                  · exact tx _
  | turn n v => refine go _ (fun x hx => ?_) rfl; simp only [Deed.rest, List.mem_cons, List.not_mem_nil, or_false] at hx
                rcases hx with rfl | rfl
                · exact good_no g.1 no32
                · exact tx _
  | leave n => refine go _ (fun x hx => ?_) rfl; simp only [Deed.rest, List.mem_cons, List.not_mem_nil, or_false] at hx; subst hx; exact good_no g no32
  | about => refine go _ (fun x hx => by cases hx) rfl
  | unwatch n => refine go _ (fun x hx => ?_) rfl; simp only [Deed.rest, List.mem_cons, List.not_mem_nil, or_false] at hx; subst hx; exact good_no g no32
  | watch m ns => refine go _ (fun x hx => ?_) rfl
                  rcases List.mem_cons.mp hx with rfl | hx
                  · exact good_no g.1 no32
                  · exact good_no (g.2 _ hx) no32
  | go q =>
    intro p hp
    simp only [Deed.words, List.mem_cons, List.not_mem_nil, or_false] at hp
    rcases hp with rfl | rfl
    · decide +kernel
    · show 32 ∉ ((txt q.num).cps ++ ("/" : Str).cps ++ (txt q.den).cps).toList
      simp only [Array.toList_append, List.mem_append, not_or]
      exact ⟨⟨tx _, by decide +kernel⟩, tx _⟩
theorem line_split {d : Deed} (g : d.Good) : Txt.split d.line (" " : Str) = d.words := by
  rw [line_join, blank_is]
  exact split_uniq (by cases d <;> simp [Deed.words]) (words_free g) rfl
theorem ofs_eq (a b : String) : (Str.ofString a = Str.ofString b) = (a = b) := by
  refine propext ⟨fun h => ?_, fun h => by rw [h]⟩
  have h1 : a.toList.map Char.toNat = b.toList.map Char.toNat := by
    rw [← signs_ofString, ← signs_ofString, h]
  exact String.toList_inj.mp (map_inj (fun x y e => Char.ext (UInt32.toNat_inj.mp e)) h1)
theorem line_le {d : Deed} (o : d.Ok) : d.line.length ≤ 900 := by
  have hw := o.ws
  have hl := o.len
  have key : ∀ d : Deed, d.line = spaced d.head d.rest → d.Ok → d.line.length ≤ 900 := fun d e o => by
    rw [e]
    have h1 := spaced_len (n := 30) (head_len d) o.ws
    have h2 := o.len
    have := Nat.mul_le_mul_right (30 + 1) h2
    omega
  cases d with
  | go q =>
    have hn := o.nums
    have l1 := txt_len hn.1
    have l2 : (txt (q.den : Int)).length ≤ 30 := txt_len (by simpa using hn.2)
    have lg : (("go " : Str)).length = 3 := by decide +kernel
    have ls : (("/" : Str)).length = 1 := by decide +kernel
    show (("go " : Str) ++ txt q.num ++ ("/" : Str) ++ txt q.den).length ≤ 900
    simp only [app_len, lg, ls]; omega
  | _ => exact key _ rfl o
theorem cut_tl (x : PV) (xs : List PV) : cutQ (x :: xs) (some 1) none = xs := by
  have e1 : HT.sIx (x :: xs).length 0 (some 1) = 1 := by simp [HT.sIx]
  have e2 : HT.sIx (x :: xs).length (x :: xs).length none = (x :: xs).length := by simp [HT.sIx]
  unfold cutQ
  rw [e1, e2]
  simp
def spDeedF (T T' : Addr) : Spr := fun xs J Q _ => ∃ d : Deed, xs = [.str d.line] ∧ d.Ok ∧ d.Good ∧ J T = some .tab ∧ J T' = some .tab ∧ Q d.V J
abbrev s_deed_of : Stmt := (top 17)
abbrev ps_deed_of : List Str := ["line"]
theorem sc_deed_of : L2.FnScope ["line", "words", "word", "rest"] ["line"] (L2.defScope s_deed_of) := fsc
theorem okr_deed_of {T T' eN f : Addr} {fd : FuncData} (F : Fun K "deed_of" "deed_of" s_deed_of f fd) (Z : BltR mg) (O_NoTale : Own K mg "NoTale" eN) (C_name_from : CanR P w K mg base 2 "name_from" ps_name_from (spNameF eN T)) (C_number_from : CanR P w K mg base 1 "number_from" ps_number_from (spNum eN T')) (C_moment_from : CanR P w K mg base 3 "moment_from" ps_moment_from (spMoF eN T')) : FnOk P w K mg base (Fly P w) 4 f fd ps_deed_of (LSp K (spDeedF T T')) := by
  refine okH F sc_deed_of (fun xs J Q E h => ?_) (fun cdv A outer s H E G E2 hr B => (rb_cons (rs_set (i := 1) sc_deed_of.nd (re_bm PySem.F.plainAttrs_str PySem.F.slot_str_split PySem.F.type_str_split mq_split (rv 0) (ra_cons re_str ra_nil)))
      (rb_cons (rs_par (i := 2) (j := 3) rfl sc_deed_of.nd rfl rfl (by decide) rfl rfl (ra_cons (re_ix iq_ix (rv 1) re_int) (ra_cons (re_slice sq_fl (rv 1) (ro_some re_int) ro_none) ra_nil)) rfl)
      (rb_cons (rs_if (rw_rt (rw_and (rt_cmp (oq_eq hr.units61) (rv 2) re_str) (rw_and1 (rt_cmp (oq_eq hr.units61) (re_callB cq_len rfl Z.len boot_len (ra_cons (rv 3) ra_nil)) re_int)))) (rb_one (rs_ret (re_tup (ra_cons re_str (ra_cons (re_fn C_name_from B hr (ra_cons (re_ix iq_ix (rv 3) re_int) ra_nil)) (ra_cons (re_fn C_number_from B hr (ra_cons (re_ix iq_ix (rv 3) re_int) ra_nil)) (ra_cons (re_fn C_number_from B hr (ra_cons (re_ix iq_ix (rv 3) re_int) ra_nil)) ra_nil))))))) rb_nil)
      (rb_cons (rs_if (rw_rt (rw_and (rt_cmp (oq_eq hr.units61) (rv 2) re_str) (rw_and1 (rt_cmp (oq_eq hr.units61) (re_callB cq_len rfl Z.len boot_len (ra_cons (rv 3) ra_nil)) re_int)))) (rb_one (rs_ret (re_tup (ra_cons re_str (ra_cons (re_fn C_name_from B hr (ra_cons (re_ix iq_ix (rv 3) re_int) ra_nil)) ra_nil))))) rb_nil)
      (rb_cons (rs_if (rw_rt (rw_and (rt_cmp (oq_eq hr.units61) (rv 2) re_str) (rw_and1 (rt_cmp (oq_eq hr.units61) (re_callB cq_len rfl Z.len boot_len (ra_cons (rv 3) ra_nil)) re_int)))) (rb_one (rs_ret (re_tup (ra_cons re_str (ra_cons (re_fn C_name_from B hr (ra_cons (re_ix iq_ix (rv 3) re_int) ra_nil)) (ra_cons (re_fn C_number_from B hr (ra_cons (re_ix iq_ix (rv 3) re_int) ra_nil)) ra_nil)))))) rb_nil)
      (rb_cons (rs_if (rw_rt (rw_and (rt_cmp (oq_eq hr.units61) (rv 2) re_str) (rw_and1 (rt_cmp (oq_eq hr.units61) (re_callB cq_len rfl Z.len boot_len (ra_cons (rv 3) ra_nil)) re_int)))) (rb_one (rs_ret (re_tup (ra_cons re_str ra_nil)))) rb_nil)
      (rb_cons (rs_if (rw_rt (rw_and (rt_cmp (oq_eq hr.units61) (rv 2) re_str) (rw_and1 (rt_cmp (oq_eq hr.units61) (re_callB cq_len rfl Z.len boot_len (ra_cons (rv 3) ra_nil)) re_int)))) (rb_one (rs_ret (re_tup (ra_cons re_str (ra_cons (re_fn C_moment_from B hr (ra_cons (re_ix iq_ix (rv 3) re_int) ra_nil)) ra_nil))))) rb_nil)
      (rb_cons (rs_if (rw_rt (rw_and (rt_cmp (oq_eq hr.units61) (rv 2) re_str) (rw_and1 (rt_cmp oq_ge (re_callB cq_len rfl Z.len boot_len (ra_cons (rv 3) ra_nil)) re_int)))) (rb_one (rs_ret (re_tup (ra_cons re_str (ra_cons (re_fn C_name_from B hr (ra_cons (re_ix iq_ix (rv 3) re_int) ra_nil)) (ra_cons (re_callTy cq_tuple rfl Z.tuple boot_tuple (ra_cons (re_lc (L2.defScope s_deed_of) ["line", "words", "word", "rest"] [] rfl rfl rfl (ri_list (re_slice sq_fl (rv 3) (ro_some re_int) ro_none)) (fun _ _ _ _ _ _ => (re_fn C_name_from ebd0 hr (ra_cons (rv 0) ra_nil)))) ra_nil)) ra_nil)))))) rb_nil)
      (rb_cons (rs_if (rw_rt (rw_and (rt_cmp (oq_eq hr.units61) (rv 2) re_str) (rw_and1 (rt_cmp (oq_eq hr.units61) (re_callB cq_len rfl Z.len boot_len (ra_cons (rv 3) ra_nil)) re_int)))) (rb_one (rs_ret (re_tup (ra_cons re_str (ra_cons (re_fn C_name_from B hr (ra_cons (re_ix iq_ix (rv 3) re_int) ra_nil)) ra_nil))))) rb_nil)
      (rb_one (rs_raise O_NoTale rfl cxF_throws B.kn rfl (ra_cons re_str ra_nil))))))))))))) (fun xs J Q E2 h X hX => ?_)
  · obtain ⟨d, rfl, _⟩ := h; rfl
  obtain ⟨d, rfl, o, g, hT, hT', q⟩ := h
  refine hX ?_
  have l32 : ((" " : Str).length == 0) = false := by decide +kernel
  have ll := line_le o
  simp_all! [qSplit, l32, line_split g]
  refine ⟨le_line (by omega), hNq _ _ ?_⟩
  clear hNq Nq
  have small : ∀ {x : Str}, x.length ≤ 30 → x.length ≤ sizeLine := fun h => le_line (by omega)
  have nameS : ∀ {n : Str} {Q' : PV → Hq → Prop} {E' : Addr → Hq → Prop} {J' : Hq}, good n = true → J' T = some .tab → Q' (.str n) J' → spNameF eN T [.str n] J' Q' E' := fun hg ht hq => ⟨_, rfl, le_line (Nat.le_trans (good_len hg) (by decide)), ht, fun _ => hq, fun z => by rw [hg] at z; cases z⟩
  have numS : ∀ {i : Int} {Q' : PV → Hq → Prop} {E' : Addr → Hq → Prop} {J' : Hq}, i.natAbs < 10 ^ 12 → J' T' = some .tab → Q' (.int i) J' → spNum eN T' [.str (txt i)] J' Q' E' := fun hi ht hq => ⟨_, rfl, le_line (Nat.le_trans (txt_len (Nat.lt_of_lt_of_le hi (by decide))) (by decide)), ht, fun n hn e => by rw [← txt_inj hi e hn]; exact hq, fun z => absurd rfl (z _ hi)⟩
  cases d with
  | join n p v =>
    have e : (Deed.join n p v).words = [("join" : Str), n, txt p, txt v] := rfl
    rw [e]
    simp_all! [eq_str, ofs_eq, cut_tl, Int.cast_ofNat_Int, Int.reduceEq, Int.reduceLE]
    exact nameS g.1 hT (numS g.2.1 hT' (numS g.2.2 hT' q))
  | turn n v =>
    have e : (Deed.turn n v).words = [("turn" : Str), n, txt v] := rfl
    rw [e]
    simp_all! [eq_str, ofs_eq, cut_tl, Int.cast_ofNat_Int, Int.reduceEq, Int.reduceLE]
    exact nameS g.1 hT (numS g.2 hT' q)
  | leave n =>
    have e : (Deed.leave n).words = [("leave" : Str), n] := rfl
    rw [e]
    simp_all! [eq_str, ofs_eq, cut_tl, Int.cast_ofNat_Int, Int.reduceEq, Int.reduceLE]
    exact nameS g hT q
  | about =>
    have e : Deed.about.words = [("about" : Str)] := rfl
    rw [e]
    simp_all! [eq_str, ofs_eq, cut_tl, Int.cast_ofNat_Int, Int.reduceEq, Int.reduceLE]
    exact q
  | unwatch n =>
    have e : (Deed.unwatch n).words = [("unwatch" : Str), n] := rfl
    rw [e]
    simp_all! [eq_str, ofs_eq, cut_tl, Int.cast_ofNat_Int, Int.reduceEq, Int.reduceLE]
    exact nameS g hT q
  | go z =>
    have e : (Deed.go z).words = [("go" : Str), timeTx z] := rfl
    rw [e]
    simp_all! [eq_str, ofs_eq, cut_tl, Int.cast_ofNat_Int, Int.reduceEq, Int.reduceLE]
    have hlt : (timeTx z).length + 2 ≤ sizeLine := by
      have l1 := txt_len (i := z.num) (Nat.lt_of_lt_of_le g.2.1 (by decide))
      have l2 : (txt (z.den : Int)).length ≤ 30 := txt_len (Nat.lt_of_lt_of_le (show (z.den : Int).natAbs < 10 ^ 12 by have := g.2.2; simpa using this) (by decide))
      have ls : (("/" : Str)).length = 1 := by decide +kernel
      refine le_line ?_
      unfold timeTx
      simp only [app_len, ls]; omega
    refine ⟨_, rfl, hlt, hT', fun z' hz' e => ?_, fun he => absurd rfl (he z g)⟩
    have h1 := time_split z
    rw [e, time_split z'] at h1
    injection h1 with h1 h2
    injection h2 with h2 _
    have h3 := txt_inj hz'.2.1 h1 g.2.1
    have h4 := txt_inj (show (z'.den : Int).natAbs < 10 ^ 12 by have := hz'.2.2; simpa using this) h2 (show (z.den : Int).natAbs < 10 ^ 12 by have := g.2.2; simpa using this)
    rw [Rat.ext h3 (by omega)]
    exact q
  | watch m ns =>
    have e : (Deed.watch m ns).words = ("watch" : Str) :: m :: ns := rfl
    rw [e]
    have hl : ns.length + 1 ≤ 20 := o.len
    simp_all! [eq_str, ofs_eq, cut_tl, Int.cast_ofNat_Int, Int.reduceEq, Int.reduceLE, rLCf, List.length_map]
    rw [if_pos (show (1 : Int) ≤ ((ns.length + 1 : Nat) : Int) by omega)]
    refine nameS g.1 hT ⟨fun _ => true, id, ⟨by rw [List.length_map]; exact small1000 (by omega), fun J' sub => ⟨trivial, fun x hx => ⟨⟨rfl, rfl⟩, fun _ => ?_⟩⟩⟩, ?_⟩
    · obtain ⟨n, hn, rfl⟩ := List.mem_map.mp hx
      simp_arith! [rSeq]
      exact nameS (g.2 n hn) (sub _ _ hT) ⟨rfl, rfl⟩
    · have ef : ((ns.map PV.str).filter fun _ => true).map id = ns.map PV.str := by rw [List.map_id, List.filter_eq_self.mpr fun _ _ => rfl]
      rw [ef]
      exact ⟨_, _, rfl, rfl, q⟩
abbrev s_whole : Stmt := (top 21)
abbrev ps__law_whole : List Str := ["_law_found"]
theorem sc_whole : L2.FnScope ["_law_found"] ["_law_found"] (L2.defScope s_whole) := fsc
def spWholeR : Spr := fun xs J Q _ => ∃ i : Int, xs = [.int i] ∧ Q (.bl true) J
theorem okr_whole {f : Addr} {fd : FuncData} (F : Fun K "_law_whole" "_law_whole" s_whole f fd) (Z : BltR mg) : FnOk P w K mg base (Fly P w) 1 f fd ps__law_whole (LSp K spWholeR) := by
  refine okH F sc_whole (fun xs J Q E h => ?_) (fun cdv A outer s H E G E2 hr B => (rb_one (rs_ret (re_and (re_callB cq_isi rfl Z.isinstance boot_isinstance (ra_cons (rv 0) (ra_cons (re_ty rfl Z.int boot_int) ra_nil))) (re_one (re_not (re_callB cq_isi rfl Z.isinstance boot_isinstance (ra_cons (rv 0) (ra_cons (re_ty rfl Z.bool boot_bool) ra_nil))))))))) (fun xs J Q E2 h X hX => ?_)
  · obtain ⟨i, rfl, _⟩ := h; rfl
  obtain ⟨i, rfl, q⟩ := h
  refine hX ?_
  simp_arith! [rSeq]
  exact q
abbrev s_part : Stmt := (top 23)
abbrev ps__law_part : List Str := ["_law_found", "_law_due"]
theorem sc_part : L2.FnScope ["_law_found", "_law_due"] ["_law_found", "_law_due"] (L2.defScope s_part) := fsc
def spPartR : Spr := fun xs J Q _ => ∃ a : Rat, xs = [fr a, fr a] ∧ Q (.bl true) J
theorem okr_part {f : Addr} {fd : FuncData} (F : Fun K "_law_part" "_law_part" s_part f fd) (Z : BltR mg) (C_whole : CanR P w K mg base 1 "_law_whole" ps__law_whole spWholeR) : FnOk P w K mg base (Fly P w) 2 f fd ps__law_part (LSp K spPartR) := by
  refine okH F sc_part (fun xs J Q E h => ?_) (fun cdv A outer s H E G E2 hr B => (rb_cons (rs_if (rw_rt (rw_or (rt_not (rt_val (re_callB cq_isi rfl Z.isinstance boot_isinstance (ra_cons (rv 0) (ra_cons (re_ty rfl Z.tuple boot_tuple) ra_nil))))) (rw_or1 (rt_cmp (oq_ne hr.units61) (re_callB cq_len rfl Z.len boot_len (ra_cons (rv 0) ra_nil)) re_int)))) (rb_one (rs_ret re_bl)) rb_nil)
      (rb_cons (rs_if (rw_rt (rw_or (rt_not (rt_val (re_fn C_whole B hr (ra_cons (re_ix iq_ix (rv 0) re_int) ra_nil)))) (rw_or1 (rt_not (rt_val (re_fn C_whole B hr (ra_cons (re_ix iq_ix (rv 0) re_int) ra_nil))))))) (rb_one (rs_ret re_bl)) rb_nil)
      (rb_one (rs_ret (re_cmp (oq_eq hr.units61) (rv 0) (rv 1))))))) (fun xs J Q E2 h X hX => ?_)
  · obtain ⟨a, rfl, _⟩ := h; rfl
  obtain ⟨a, rfl, q⟩ := h
  refine hX ?_
  simp_arith! [rSeq, spWholeR]
  exact q
theorem cpow12 : CPow 10 12 = True := eq_true ⟨by decide, by decide, by decide⟩
theorem p12 : (10 : Int) ^ Int.toNat 12 = 1000000000000 := by decide
theorem cut_strs (cs : List Str) (lo hi : Option Int) : ∃ cs' : List Str, cutQ (cs.map .str) lo hi = cs'.map .str ∧ cs'.length ≤ cs.length ∧ ∀ y ∈ cs', y ∈ cs := by
  refine ⟨(cs.drop (HT.sIx cs.length 0 lo)).take (HT.sIx cs.length cs.length hi - HT.sIx cs.length 0 lo), ?_, ?_, fun y hy => List.mem_of_mem_drop (List.mem_of_mem_take hy)⟩
  · unfold cutQ; rw [List.length_map, List.map_take, List.map_drop]
  · rw [List.length_take, List.length_drop]; omega
theorem str_at {ns : List Str} {i : Int} (h0 : 0 ≤ i) (h1 : i < (ns.length : Int)) : ∃ x ∈ ns, atI (ns.map PV.str) i = some (.str x) := by
  obtain ⟨j, rfl⟩ := Int.eq_ofNat_of_zero_le h0
  have hj : j < ns.length := by omega
  exact ⟨ns[j], List.getElem_mem hj, atI_nat (by rw [List.getElem?_map, List.getElem?_eq_getElem hj]; rfl)⟩
abbrev s_anydeed : Stmt := (top 26)
abbrev ps__law_anydeed : List Str := ["_law_cell_here", "_law_name_cell"]
theorem sc_anydeed : L2.FnScope ["_law_cell_here", "_law_name_cell", "_law_row", "_law_names_here", "_law_numbers"] ["_law_cell_here", "_law_name_cell"] (L2.defScope s_anydeed) := fsc
def spAny : Spr := fun xs J Q _ => ∃ c n : Int, xs = [.int c, .int n] ∧ ∀ d : Deed, d.Ok → d.Good → Q d.V J
theorem okr_anydeed {f : Addr} {fd : FuncData} (F : Fun K "_law_anydeed" "_law_anydeed" s_anydeed f fd) (Z : BltR mg) (C_digits : CanR P w K mg base 1 "_law_digits" ps__law_digits spDigR) (C_names : CanR P w K mg base 2 "_law_names" ps__law_names spNamesR) (C_low : CanR P w K mg base 1 "_law_low" ps__law_low spLowR) : FnOk P w K mg base (Fly P w) 3 f fd ps__law_anydeed (LSp K spAny) := by
  refine okH F sc_anydeed (fun xs J Q E h => ?_) (fun cdv A outer s H E G E2 hr B => (rb_cons (rs_set (i := 2) sc_anydeed.nd (re_fn C_digits B hr (ra_cons (rv 0) (ra_cons (re_fl (ra_cons re_int (ra_cons (re_op oq_sub (re_op oq_mul re_int (re_op oq_pow re_int re_int)) re_int) (ra_cons (re_op oq_sub (re_op oq_mul re_int (re_op oq_pow re_int re_int)) re_int) (ra_cons (re_op oq_sub (re_op oq_pow re_int re_int) re_int) (ra_cons re_int (ra_cons re_int ra_nil))))))) ra_nil))))
      (rb_cons (rs_set (i := 3) sc_anydeed.nd (re_fn C_names B hr (ra_cons (rv 1) (ra_cons re_int ra_nil))))
      (rb_cons (rs_set (i := 4) sc_anydeed.nd (re_fl (ra_cons (re_op oq_add (re_op oq_sub (re_ix iq_ix (rv 2) re_int) (re_op oq_pow re_int re_int)) re_int) (ra_cons (re_op oq_add (re_op oq_sub (re_ix iq_ix (rv 2) re_int) (re_op oq_pow re_int re_int)) re_int) ra_nil))))
      (rb_join (rs_if (rt_cmp oq_lt (re_ix iq_ix (rv 2) re_int) re_int) (rb_one (rs_set (i := 4) sc_anydeed.nd (re_fl (ra_cons (re_op oq_sub (re_op oq_mod (re_ix iq_ix (rv 2) re_int) re_int) re_int) (ra_cons (re_op oq_sub (re_op oq_mod (re_ix iq_ix (rv 2) re_int) re_int) re_int) ra_nil))))) rb_nil)
      (rb_join (rs_if (rt_cmp (oq_eq hr.units61) (re_ix iq_ix (rv 2) re_int) re_int) (rb_one (rs_set (i := 4) sc_anydeed.nd (re_fl (ra_cons (re_op oq_sub (re_op oq_mod (re_ix iq_ix (rv 2) re_int) re_int) re_int) (ra_cons (re_op oq_sub (re_op oq_mod (re_ix iq_ix (rv 2) re_int) re_int) re_int) ra_nil))))) rb_nil)
      (rb_cons (rs_if (rt_cmp oq_lt (re_ix iq_ix (rv 2) re_int) re_int) (rb_one (rs_ret (re_tup (ra_cons re_str (ra_cons (re_ix iq_ix (rv 3) re_int) (ra_cons (re_ix iq_ix (rv 4) re_int) (ra_cons (re_ix iq_ix (rv 4) re_int) ra_nil))))))) rb_nil)
      (rb_cons (rs_if (rt_cmp (oq_eq hr.units61) (re_ix iq_ix (rv 2) re_int) re_int) (rb_one (rs_ret (re_tup (ra_cons re_str (ra_cons (re_ix iq_ix (rv 3) (re_ix iq_ix (rv 2) re_int)) (ra_cons (re_ix iq_ix (rv 4) re_int) ra_nil)))))) rb_nil)
      (rb_cons (rs_if (rt_cmp (oq_eq hr.units61) (re_ix iq_ix (rv 2) re_int) re_int) (rb_one (rs_ret (re_tup (ra_cons re_str (ra_cons (re_ix iq_ix (rv 3) (re_ix iq_ix (rv 2) re_int)) ra_nil))))) rb_nil)
      (rb_cons (rs_if (rt_cmp (oq_eq hr.units61) (re_ix iq_ix (rv 2) re_int) re_int) (rb_one (rs_ret (re_tup (ra_cons re_str ra_nil)))) rb_nil)
      (rb_cons (rs_if (rt_cmp (oq_eq hr.units61) (re_ix iq_ix (rv 2) re_int) re_int) (rb_one (rs_ret (re_tup (ra_cons re_str (ra_cons (re_ix iq_ix (rv 3) re_int) (ra_cons (re_callTy cq_tuple rfl Z.tuple boot_tuple (ra_cons (re_slice sq_fl (rv 3) (ro_some re_int) (ro_some (re_op oq_add re_int (re_ix iq_ix (rv 2) re_int)))) ra_nil)) ra_nil)))))) rb_nil)
      (rb_cons (rs_if (rt_cmp (oq_eq hr.units61) (re_ix iq_ix (rv 2) re_int) re_int) (rb_one (rs_ret (re_tup (ra_cons re_str (ra_cons (re_ix iq_ix (rv 3) (re_ix iq_ix (rv 2) re_int)) ra_nil))))) rb_nil)
      (rb_one (rs_ret (re_tup (ra_cons re_str (ra_cons (re_fn C_low B hr (ra_cons (re_callB cq_abs rfl Z.abs boot_abs (ra_cons (re_ix iq_ix (rv 4) re_int) ra_nil)) (ra_cons (re_op oq_add re_int (re_op oq_mod (re_ix iq_ix (rv 2) re_int) (re_ix iq_ix (re_fl (ra_cons re_int (ra_cons re_int (ra_cons re_int (ra_cons re_int (ra_cons (re_op oq_sub (re_op oq_pow re_int re_int) re_int) ra_nil)))))) (re_ix iq_ix (rv 2) re_int)))) ra_nil))) ra_nil))))))))))))))))) (fun xs J Q E2 h X hX => ?_)
  · obtain ⟨c, n, rfl, _⟩ := h; rfl
  obtain ⟨c, n, rfl, q⟩ := h
  refine hX ?_
  simp_all! []
  have b64 : ∀ n : Int, -(2 ^ 60) ≤ n → n ≤ 2 ^ 60 → Bd 64 n := fun n h1 h2 => .small (by omega) (by omega)
  have c2 : CM 2 1000000000000 := .of (b64 2 (by decide) (by decide)) (b64 1000000000000 (by decide) (by decide))
  simp only [cpow12, p12, true_and]
  refine ⟨c2, c2, c, [8, 2 * 1000000000000 - 1, 2 * 1000000000000 - 1, 1000000000000 - 1, 5, 13], rfl, sizes_ok (by decide), by decide, fun ds hD => ?_⟩
  obtain ⟨d0, ds, rfl, d00, d01, hD⟩ := hD.cons
  obtain ⟨d1, ds, rfl, d10, d11, hD⟩ := hD.cons
  obtain ⟨d2, ds, rfl, d20, d21, hD⟩ := hD.cons
  obtain ⟨d3, ds, rfl, d30, d31, hD⟩ := hD.cons
  obtain ⟨d4, ds, rfl, d40, d41, hD⟩ := hD.cons
  obtain ⟨d5, ds, rfl, d50, d51, hD⟩ := hD.cons
  cases hD.nil
  simp_all! []
  refine ⟨n, 13, rfl, by decide, by decide, fun names nl nd nx => ?_⟩
  simp_all! [cpow12, p12]
  obtain ⟨M, hM⟩ : ∃ M : Sr → Hq → Prop, ∀ τ' J', M τ' J' ↔ ∃ a b : Int, τ' = [some (.int c), some (.int n), some (.fl [.int d0, .int d1, .int d2, .int d3, .int d4, .int d5]), some (.fl (names.map .str)), some (.fl [.int a, .int b])] ∧ J' = J ∧ a.natAbs < 1000000000000 ∧ b.natAbs < 1000000000000 := ⟨_, fun _ _ => Iff.rfl⟩
  refine ⟨M, ?_, ?_⟩
  · simp_all! []
    split
    · exact ⟨by decide, by decide, (hM _ _).mpr ⟨_, _, rfl, rfl, by omega, by omega⟩⟩
    · exact (hM _ _).mpr ⟨_, _, rfl, rfl, by omega, by omega⟩
  intro τ' J' hm
  obtain ⟨a, b, rfl, rfl, ha, hb⟩ := (hM _ _).mp hm
  refine ⟨M, ?_, ?_⟩
  · simp_all! []
    split
    · exact ⟨by decide, by decide, (hM _ _).mpr ⟨_, _, rfl, rfl, by omega, by omega⟩⟩
    · exact hm
  clear hm
  intro τ' J'' hm
  obtain ⟨a, b, rfl, rfl, ha, hb⟩ := (hM _ _).mp hm
  clear hm hM M
  obtain ⟨x0, m0, hx0⟩ := str_at (ns := names) (i := 0) (by decide) (by omega)
  obtain ⟨x5, m5, hx5⟩ := str_at (ns := names) (i := d5) d50 (by omega)
  obtain ⟨ks, hks, lks, mks⟩ := cut_strs names (some 1) (some (1 + d5))
  have g0 := nx _ m0
  have g5 := nx _ m5
  have n0 : x0.length ≤ 30 := Nat.le_trans (good_len g0) (by decide)
  have n5 : x5.length ≤ 30 := Nat.le_trans (good_len g5) (by decide)
  have t12 : (10 : Nat) ^ 12 = 1000000000000 := by decide
  have ta : (txt a).length ≤ 30 := txt_len (by omega)
  have tb : (txt b).length ≤ 30 := txt_len (by omega)
  obtain ⟨u, hu, u0, u1⟩ : ∃ u : Int, atI [PV.int 60, PV.int 64, PV.int 1000, PV.int 7, PV.int (1000000000000 - 1)] d4 = some (.int u) ∧ 1 ≤ u ∧ u < 1000000000000 := by
    rcases (by omega : d4 = 0 ∨ d4 = 1 ∨ d4 = 2 ∨ d4 = 3 ∨ d4 = 4) with e | e | e | e | e <;> subst e
    · exact ⟨_, atI_0 _ _, by decide, by decide⟩
    · exact ⟨_, atI_1 _ _ _, by decide, by decide⟩
    · exact ⟨_, atI_2 _ _ _ _, by decide, by decide⟩
    · exact ⟨_, atI_3 _ _ _ _ _, by decide, by decide⟩
    · exact ⟨_, atI_4 _ _ _ _ _ _, by decide, by decide⟩
  simp_arith! [rSeq, hx0, hx5, hks, cpow12, p12, hu, qTuple]
  have o3 : ∀ {y : Str} {l : List Str}, y.length ≤ 30 → (∀ z ∈ l, z.length ≤ 30) → ∀ z ∈ y :: l, z.length ≤ 30 := fun h k z hz => by
    rcases List.mem_cons.mp hz with rfl | hz
    · exact h
    · exact k z hz
  have on : ∀ z ∈ ([] : List Str), z.length ≤ 30 := fun z hz => by cases hz
  split
  · exact q (.join x0 a b) ⟨o3 n0 (o3 ta (o3 tb on)), by show (3 : Nat) ≤ 20; decide, by omega, by omega⟩ ⟨g0, by omega, by omega⟩
  split
  · exact q (.turn x5 b) ⟨o3 n5 (o3 tb on), by show (2 : Nat) ≤ 20; decide, show b.natAbs < 10 ^ 13 by omega⟩ ⟨g5, by omega⟩
  split
  · exact q (.leave x5) ⟨o3 n5 on, by show (1 : Nat) ≤ 20; decide, trivial⟩ g5
  split
  · exact q .about ⟨on, by show (0 : Nat) ≤ 20; decide, trivial⟩ trivial
  split
  · exact q (.watch x0 ks) ⟨o3 n0 (fun z hz => Nat.le_trans (good_len (nx z (mks z hz))) (by decide)), by show ks.length + 1 ≤ 20; omega, trivial⟩ ⟨g0, fun z hz => nx z (mks z hz)⟩
  split
  · exact q (.unwatch x5) ⟨o3 n5 on, by show (1 : Nat) ≤ 20; decide, trivial⟩ g5
  have v0 : 0 ≤ d3 % u := Int.emod_nonneg _ (by omega)
  have v1 : d3 % u < u := Int.emod_lt_of_pos _ (by omega)
  refine ⟨by omega, _, _, rfl, by omega, (b64 (1 + d3 % u) (by omega) (by omega)).mono (by decide), ?_⟩
  have e1 := num_abs (if a < 0 then -a else a) (1 + d3 % u)
  have e2 := den_abs (t := if a < 0 then -a else a) (b := 1 + d3 % u) (by omega)
  have e3 : (if a < 0 then -a else a).natAbs < 1000000000000 := by split <;> omega
  have e4 : 0 ≤ (Rat.divInt (if a < 0 then -a else a) (1 + d3 % u)).num := Rat.num_nonneg.mpr (Rat.divInt_nonneg (by split <;> omega) (by omega))
  exact q (.go (Rat.divInt (if a < 0 then -a else a) (1 + d3 % u))) ⟨on, by show (0 : Nat) ≤ 20; decide, by omega, by omega⟩ ⟨e4, by omega, by omega⟩
def spAlike : Spr := fun xs J Q _ => ∃ d : Deed, xs = [d.V, d.V] ∧ d.Ok ∧ Q (.bl true) J
abbrev s_deedalike : Stmt := (top 27)
abbrev ps__law_deedalike : List Str := ["_law_found", "_law_due"]
theorem sc_deedalike : L2.FnScope ["_law_found", "_law_due", "_law_k"] ["_law_found", "_law_due"] (L2.defScope s_deedalike) := fsc
theorem pur_its (d : Deed) : pur d.V = true := by
  have h : ∀ ns : List Str, purs (ns.map PV.str) = true := purs_map _ fun a => pur_str a
  cases d <;> simp [Deed.V, Deed.its, pur, purs, h, fr]
theorem dep_strs : ∀ ns : List Str, deps (pyOfs (ns.map PV.str)) = 0
  | [] => by simp [pyOfs, deps]
  | n :: ns => by simp [pyOfs, pyOf, deps, dep, dep_strs ns]
theorem cm_its (d : Deed) : cmQ d.V := ⟨pur_its d, by cases d <;> simp [Deed.V, Deed.its, pyOf, pyOfs, dep, deps, fr, dep_strs]⟩
theorem okr_deedalike {f : Addr} {fd : FuncData} (F : Fun K "_law_deedalike" "_law_deedalike" s_deedalike f fd) (Z : BltR mg) (C_part : CanR P w K mg base 2 "_law_part" ps__law_part spPartR) (C_whole : CanR P w K mg base 1 "_law_whole" ps__law_whole spWholeR) : FnOk P w K mg base (Fly P w) 3 f fd ps__law_deedalike (LSp K spAlike) := by
  refine okH F sc_deedalike (fun xs J Q E h => ?_) (fun cdv A outer s H E G E2 hr B => (rb_cons (rs_if (rw_rt (rw_or (rt_not (rt_val (re_callB cq_isi rfl Z.isinstance boot_isinstance (ra_cons (rv 0) (ra_cons (re_ty rfl Z.tuple boot_tuple) ra_nil))))) (rw_or (rt_cmp (oq_ne hr.units61) (re_callB cq_len rfl Z.len boot_len (ra_cons (rv 0) ra_nil)) (re_callB cq_len rfl Z.len boot_len (ra_cons (rv 1) ra_nil))) (rw_or1 (rt_cmp (oq_ne hr.units61) (rv 0) (rv 1)))))) (rb_one (rs_ret re_bl)) rb_nil)
      (rb_cons (rs_if (rt_cmp (oq_eq hr.units61) (re_ix iq_ix (rv 1) re_int) re_str) (rb_one (rs_ret (re_fn C_part B hr (ra_cons (re_ix iq_ix (rv 0) re_int) (ra_cons (re_ix iq_ix (rv 1) re_int) ra_nil))))) rb_nil)
      (rb_cons (rs_if (rt_cmp (oq_eq hr.units61) (re_ix iq_ix (rv 1) re_int) re_str) (rb_one (rs_ret (re_callB cq_isi rfl Z.isinstance boot_isinstance (ra_cons (re_ix iq_ix (rv 0) re_int) (ra_cons (re_ty rfl Z.tuple boot_tuple) ra_nil))))) rb_nil)
      (rb_cons (rs_for cxF_own rfl (ri_range2 rfl Z.range (ra_cons re_int (ra_cons (re_callB cq_len rfl Z.len boot_len (ra_cons (rv 1) ra_nil)) ra_nil))) (rg_name (i := 2) sc_deedalike.nd) (rb_one (rs_if (rt_not (rt_val (re_fn C_whole B hr (ra_cons (re_ix iq_ix (rv 0) (rv 2)) ra_nil)))) (rb_one (rs_ret re_bl)) rb_nil)))
      (rb_one (rs_ret (re_callB cq_isi rfl Z.isinstance boot_isinstance (ra_cons (re_ix iq_ix (rv 0) re_int) (ra_cons (re_ty rfl Z.str boot_str) ra_nil)))))))))) (fun xs J Q E2 h X hX => ?_)
  · obtain ⟨d, rfl, _⟩ := h; rfl
  obtain ⟨d, rfl, o, q⟩ := h
  refine hX ?_
  have h0 : ixQ J d.V (.int 0) = some (.str d.head) := atI_0 _ _
  have ht : tyN J d.V = some "tuple" := rfl
  have hl : lenQ J d.V = some (d.its.length + 1) := rfl
  have hp := pur_its d
  have hc := cm_its d
  have he := eq_self d.V
  refine ifq_seq false (fun R hR => ?_) (fun hb N => nomatch hb) (fun hb => ?_)
  · simp_arith! [rSeq, ht, hl, hp, hc, he]
    exact hR
  have shape : (∃ q, d = .go q) ∨ (∃ m ns, d = .watch m ns) ∨ d.plain = true := by cases d <;> simp [Deed.plain]
  rcases shape with ⟨z, rfl⟩ | ⟨m, ns, rfl⟩ | hp
  · have h1 : ixQ J (Deed.go z).V (.int 1) = some (fr z) := atI_1 _ _ _
    simp_all! [h0, h1, Deed.head, eq_str, ofs_eq]
    exact ⟨z, rfl, q⟩
  · have h2 : ixQ J (Deed.watch m ns).V (.int 2) = some (.tup (ns.map .str)) := atI_2 _ _ _ _
    simp_all! [h0, h2, Deed.head, eq_str, ofs_eq]
    exact q
  have e1 : eqQ (.str d.head) (.str "go") = false := by rw [eq_str]; exact decide_eq_false fun h => by have h' := Eq.mp (head_go d) h; cases d <;> first | exact h' | cases hp
  have e2 : eqQ (.str d.head) (.str "watch") = false := by rw [eq_str]; exact decide_eq_false fun h => by have h' := Eq.mp (head_watch d) h; cases d <;> first | exact h' | cases hp
  simp_all! [h0, e1, e2, hl]
  have ho := o.len
  obtain ⟨hlen, hit⟩ := its_ok o hp
  refine ⟨by decide, by decide, by omega, by omega, ?_⟩
  obtain ⟨Inv, hInv⟩ : ∃ Inv : Nat → Sr → Hq → Prop, ∀ i τ J', Inv i τ J' ↔ ∃ (u : Option PV), τ = [some d.V, some d.V, u] ∧ J' = J := ⟨_, fun _ _ _ => Iff.rfl⟩
  refine for_rng Inv ((hInv _ _ _).mpr ⟨_, rfl, rfl⟩) ?_ ?_
  · intro i τ J' hi hv
    obtain ⟨u, rfl, rfl⟩ := (hInv _ _ _).mp hv
    have hx : ∃ j : Int, d.its[i + 1]? = some (.int j) := by
      cases d with
      | join n p v =>
        have hi : i < 2 := by have : (((Deed.join n p v).its.length + 1 : Nat) : Int) = 4 := rfl
                              omega
        rcases (by omega : i = 0 ∨ i = 1) with rfl | rfl
        · exact ⟨_, rfl⟩
        · exact ⟨_, rfl⟩
      | turn n v =>
        have hi : i < 1 := by have : (((Deed.turn n v).its.length + 1 : Nat) : Int) = 3 := rfl
                              omega
        obtain rfl : i = 0 := by omega
        exact ⟨_, rfl⟩
      | leave n => exact absurd hi (by have : (((Deed.leave n).its.length + 1 : Nat) : Int) = 2 := rfl
                                       omega)
      | unwatch n => exact absurd hi (by have : (((Deed.unwatch n).its.length + 1 : Nat) : Int) = 2 := rfl
                                         omega)
      | about => exact absurd hi (by have : ((Deed.about.its.length + 1 : Nat) : Int) = 1 := rfl
                                     omega)
      | _ => cases hp
    obtain ⟨j, hj⟩ := hx
    have ha : ixQ J' d.V (.int (2 + (i : Int))) = some (.int j) := by
      show atI (PV.str d.head :: d.its) (2 + (i : Int)) = some (.int j)
      rw [show 2 + (i : Int) = ((i + 2 : Nat) : Int) by omega]
      exact atI_nat (by rw [List.getElem?_cons_succ]; exact hj)
    simp_arith! [rSeq, ha, spWholeR]
    exact (hInv _ _ _).mpr ⟨_, rfl, rfl⟩
  · intro τ J' hv
    obtain ⟨u, rfl, rfl⟩ := (hInv _ _ _).mp hv
    have h0' : ixQ J' d.V (.int 0) = some (.str d.head) := atI_0 _ _
    refine hNq _ _ ?_
    simp_arith! [rSeq, h0']
    exact q
abbrev s_law : Stmt := (top 28)
abbrev ps_law : List Str := ["_law_script"]
theorem sc_law : L2.FnScope ["_law_script", "_law_deed", "_law_line_here", "_law_found"] ["_law_script"] (L2.defScope s_law) := fsc
theorem okr_law {T T' f : Addr} {fd : FuncData} (F : Fun K "law" "law" s_law f fd) (Z : BltR mg) (C_cell : CanR P w K mg base 1 "_law_cell" ps__law_cell spCellR) (C_anydeed : CanR P w K mg base 3 "_law_anydeed" ps__law_anydeed spAny) (C_line : CanR P w K mg base 1 "_law_line" ps__law_line spLineOf) (C_deed_of : CanR P w K mg base 4 "deed_of" ps_deed_of (spDeedF T T')) (C_deedalike : CanR P w K mg base 3 "_law_deedalike" ps__law_deedalike spAlike) (C_line_of : CanR P w K mg base 1 "line_of" ps_line_of spLineOf) : FnOk P w K mg base (Fly P w) 5 f fd ps_law (LSp K (spLawG [T, T'])) := by
  refine okH F sc_law (fun xs J Q E h => ?_) (fun cdv A outer s H E G E2 hr B => (rb_cons (rs_set (i := 1) sc_law.nd (re_fn C_anydeed B hr (ra_cons (re_fn C_cell B hr (ra_cons (rv 0) (ra_cons re_int ra_nil))) (ra_cons (re_fn C_cell B hr (ra_cons (rv 0) (ra_cons re_int ra_nil))) ra_nil))))
      (rb_cons (rs_set (i := 2) sc_law.nd (re_fn C_line B hr (ra_cons (rv 1) ra_nil)))
      (rb_cons (rs_set (i := 3) sc_law.nd (re_fn C_deed_of B hr (ra_cons (rv 2) ra_nil)))
      (rb_one (rs_ret (re_and (re_fn C_deedalike B hr (ra_cons (rv 3) (ra_cons (rv 1) ra_nil))) (re_one (re_cmp (oq_eq hr.units61) (re_fn C_line_of B hr (ra_cons (rv 3) ra_nil)) (rv 2)))))))))) (fun xs J Q E2 h X hX => ?_)
  · obtain ⟨ns, rfl, _⟩ := h; rfl
  obtain ⟨ns, rfl, hl, hT, _, q⟩ := h
  refine hX ?_
  have hT1 := hT T (by simp)
  have hT2 := hT T' (by simp)
  have ql := q J hT
  simp_all! []
  refine ⟨ns, 0, rfl, by decide, by decide, fun c0 => ⟨ns, 1, rfl, by decide, by decide, fun c1 => ⟨c0, c1, rfl, fun d o g => ?_⟩⟩⟩
  simp_all! []
  refine ⟨d, rfl, o, ?_⟩
  simp_all! []
  refine ⟨d, rfl, o, g, hT1, hT2, ?_⟩
  simp_all! []
  refine ⟨d, rfl, o, ?_⟩
  simp_all! []
  exact ⟨d, rfl, o, by simp_all! [cm_str, eq_self]; exact ql⟩
end
theorem all_ok {P : Program} {w : World} {K : PySem.W.Frag} {mg : Str → Option Value} (Z : BltR mg) {t_FIGURES : Tok} (g_FIGURES : mg "FIGURES" = some (.str "0123456789" t_FIGURES)) {t_LONGEST : Tok} (g_LONGEST : mg "LONGEST" = some (.int 8 t_LONGEST)) {t_MOST_FIGURES : Tok} (g_MOST_FIGURES : mg "MOST_FIGURES" = some (.int 12 t_MOST_FIGURES)) {t_SIGNS : Tok} (g_SIGNS : mg "SIGNS" = some (.str "abcdefghijklmnopqrstuvwxyz0123456789" t_SIGNS)) {e_NoTale : Addr} (O_NoTale : Own K mg "NoTale" e_NoTale) (D_cell : Def K mg "_law_cell" s_cell) (D_digits : Def K mg "_law_digits" s_digits) (D_shared : Def K mg "shared" s_shared) (D_low : Def K mg "_law_low" s_low) {T_good_name : Addr} (D_good_name : DefG K mg "good_name" s_good_name T_good_name) (D_names : Def K mg "_law_names" s_names) (D_in_lowest_terms : Def K mg "in_lowest_terms" s_in_lowest_terms) (D_whole : Def K mg "_law_whole" s_whole) (D_part : Def K mg "_law_part" s_part) {T_number_from : Addr} (D_number_from : DefG K mg "number_from" s_number_from T_number_from) (D_name_from : Def K mg "name_from" s_name_from) (D_moment_from : Def K mg "moment_from" s_moment_from) (D_deed_of : Def K mg "deed_of" s_deed_of) (D_line_of : Def K mg "line_of" s_line_of) (D_line : Def K mg "_law_line" s_line) (D_anydeed : Def K mg "_law_anydeed" s_anydeed) (D_deedalike : Def K mg "_law_deedalike" s_deedalike) {f : Addr} {fd : FuncData} (F : Fun K "law" "law" s_law f fd) (base : Heap) (Bm : BMain mg base) :
    FnOk P w K mg base (Fly P w) 5 f fd ["_law_script"] (LSp K (spLawG [T_good_name, T_number_from])) := by
  have C_cell := D_cell.can (P := P) (w := w) (base := base) (fun _ _ F => ok_cell F Z.toBlt) fun _ _ _ _ _ _ => ar2 fun _ _ => rfl
  have L_cell := lift_cell C_cell
  have C_digits := D_digits.can (P := P) (w := w) (base := base) (fun _ _ F => ok_digits F Z.toBlt) fun _ _ _ _ _ _ => ar2 fun _ _ => rfl
  have L_digits := lift_digits C_digits
  have C_shared := D_shared.can (P := P) (w := w) (base := base) (fun _ _ F => ok_shared F Z.toBlt) fun _ _ _ _ _ _ => ar2 fun _ _ => rfl
  have L_shared := lift_shared C_shared
  have C_low := D_low.can (P := P) (w := w) (base := base) (fun _ _ F => ok_low F Z.toBlt) fun _ _ _ _ _ _ => ar2 fun _ _ => rfl
  have L_low := lift_low C_low
  have C_good_name := D_good_name.can (P := P) (w := w) (base := base) (fun _ _ _ F => ok_good_name F Z.toBlt Bm g_LONGEST g_SIGNS) fun _ _ _ _ _ _ => ar1 fun _ => rfl
  have L_good_name := lift_good_name C_good_name
  have C_names := D_names.can (fun _ _ F => ok_names F Z.toBlt C_digits) fun _ _ _ _ _ _ => ar2 fun _ _ => rfl
  have L_names := lift_names C_names
  have L_in_lowest_terms := D_in_lowest_terms.canR (fun _ _ F => okr_in_lowest_terms F Z L_shared) fun _ _ _ _ _ _ => ar1 fun _ => rfl
  have L_whole := D_whole.canR (P := P) (w := w) (base := base) (fun _ _ F => okr_whole F Z) fun _ _ _ _ _ _ => ar1 fun _ => rfl
  have L_part := D_part.canR (fun _ _ F => okr_part F Z L_whole) fun _ _ _ _ _ _ => ar2 fun _ _ => rfl
  have L_number_from := D_number_from.canR (P := P) (w := w) (base := base) (fun _ _ _ F => okr_number_from F Z Bm g_MOST_FIGURES g_FIGURES O_NoTale) fun _ _ _ _ _ _ => ar1 fun _ => rfl
  have L_name_from := D_name_from.canR (fun _ _ F => okr_name_from F Z O_NoTale L_good_name) fun _ _ _ _ _ _ => ar1 fun _ => rfl
  have L_moment_from := D_moment_from.canR (fun _ _ F => okr_moment_from F Z O_NoTale L_number_from L_in_lowest_terms) fun _ _ _ _ _ _ => ar1 fun _ => rfl
  have L_deed_of := D_deed_of.canR (fun _ _ F => okr_deed_of F Z O_NoTale L_name_from L_number_from L_moment_from) fun _ _ _ _ _ _ => ar1 fun _ => rfl
  have L_line_of := D_line_of.canR (P := P) (w := w) (base := base) (fun _ _ F => okr_line_of F Z) fun _ _ _ _ _ _ => ar1 fun _ => rfl
  have L_line := D_line.canR (P := P) (w := w) (base := base) (fun _ _ F => okr_line F Z) fun _ _ _ _ _ _ => ar1 fun _ => rfl
  have L_anydeed := D_anydeed.canR (fun _ _ F => okr_anydeed F Z L_digits L_names L_low) fun _ _ _ _ _ _ => ar2 fun _ _ => rfl
  have L_deedalike := D_deedalike.canR (fun _ _ F => okr_deedalike F Z L_part L_whole) fun _ _ _ _ _ _ => ar2 fun _ _ => rfl
  exact okr_law F Z L_cell L_anydeed L_line L_deed_of L_deedalike L_line_of
end Ov
open PySem PySem.W PyProof.Rows
set_option hygiene false
local macro_rules | `(tactic| simp_arith) => `(tactic| (dsimp only [L2.KOf]; refine' Ov.def_mk KX G ?a ?l ?c ?k; (case a => k_is); (case l => k_is); (case c => k_is); (case k => k_is)))
set_option maxRecDepth 100000 in
set_option maxHeartbeats 0 in
theorem PySem.Challenge.cw_overhaul_k52_a_line_read_holds : PySem.Challenge.rw_overhaul_k52_a_line_read.Holds := by
  w_on; o_law; k_head; (case hw => w_witness2)
  k_fill
  refine Ov.walk_ofT (l := PySem.Challenge.rw_overhaul_k52_a_line_read) (n := 63) (k := 5) (x := "_law_script") (sp := Ov.spLawH) ["good_name", "number_from"] rfl (by decide) rfl ⟨rfl, by decide, by decide⟩ (fun w h Y => PySem.W.kIn_of Y) ?Nm ?F (fun tabs K H a ns hl hT hS hA hK => ⟨a, ns, rfl, hS, hl, hT, hA, hK, fun _ e => ⟨rfl, e⟩⟩)
  case Nm => decide +kernel
  case F =>
    intro w mg fa h KX G hmg
    obtain ⟨T_good_name, D_good_name⟩ : ∃ T, Ov.DefG (L2.KOf KX) mg "good_name" Ov.s_good_name T := by
      dsimp only [L2.KOf]
      refine' ⟨_, Ov.defG_mk KX G ?ga ?gl ?gc ?gk ?gt ?gp ?gb ?ge ?go⟩
      (case ga => k_is); (case gl => k_is); (case gc => k_is); (case gk => k_is); (case gt => k_is); (case gp => rfl); (case gb => kernel_rfl); (case ge => decide); (case go => kernel_rfl)
    obtain ⟨T_number_from, D_number_from⟩ : ∃ T, Ov.DefG (L2.KOf KX) mg "number_from" Ov.s_number_from T := by
      dsimp only [L2.KOf]
      refine' ⟨_, Ov.defG_mk KX G ?ga ?gl ?gc ?gk ?gt ?gp ?gb ?ge ?go⟩
      (case ga => k_is); (case gl => k_is); (case gc => k_is); (case gk => k_is); (case gt => k_is); (case gp => rfl); (case gb => kernel_rfl); (case ge => decide); (case go => kernel_rfl)
    have D_law : Ov.Def (L2.KOf KX) mg "law" Ov.s_law := by simp_arith
    have Z : Ov.BltR mg := by
      refine' ⟨Ov.Blt.mk (PySem.W.mg_none_of KX G ?z0) (PySem.W.mg_none_of KX G ?z1) (PySem.W.mg_none_of KX G ?z2) (PySem.W.mg_none_of KX G ?z3) (PySem.W.mg_none_of KX G ?z4) (PySem.W.mg_none_of KX G ?z5) (PySem.W.mg_none_of KX G ?z6) (PySem.W.mg_none_of KX G ?z7) (PySem.W.mg_none_of KX G ?z8) (PySem.W.mg_none_of KX G ?z9), PySem.W.mg_none_of KX G ?w0, PySem.W.mg_none_of KX G ?w1, PySem.W.mg_none_of KX G ?w2, PySem.W.mg_none_of KX G ?w3, PySem.W.mg_none_of KX G ?w4⟩
      (case z0 => k_is); (case z1 => k_is); (case z2 => k_is); (case z3 => k_is); (case z4 => k_is); (case z5 => k_is); (case z6 => k_is); (case z7 => k_is); (case z8 => k_is); (case z9 => k_is); (case w0 => k_is); (case w1 => k_is); (case w2 => k_is); (case w3 => k_is); (case w4 => k_is)
    obtain ⟨e_NoTale, O_NoTale⟩ : ∃ C, Ov.Own (L2.KOf KX) mg "NoTale" C := by
      dsimp only [L2.KOf]
      refine' ⟨_, Ov.own_mk KX G ?a ?b⟩
      (case a => k_is); (case b => kernel_rfl)
    obtain ⟨t_FIGURES, g_FIGURES⟩ : ∃ t, mg "FIGURES" = some (.str "0123456789" t) := by
      refine' Ov.const_str KX G ?cz ?cw
      (case cz => k_is); (case cw => kernel_rfl)
    obtain ⟨t_LONGEST, g_LONGEST⟩ : ∃ t, mg "LONGEST" = some (.int 8 t) := by
      refine' Ov.const_int KX G ?cz ?cw
      (case cz => k_is); (case cw => kernel_rfl)
    obtain ⟨t_MOST_FIGURES, g_MOST_FIGURES⟩ : ∃ t, mg "MOST_FIGURES" = some (.int 12 t) := by
      refine' Ov.const_int KX G ?cz ?cw
      (case cz => k_is); (case cw => kernel_rfl)
    obtain ⟨t_SIGNS, g_SIGNS⟩ : ∃ t, mg "SIGNS" = some (.str "abcdefghijklmnopqrstuvwxyz0123456789" t) := by
      refine' Ov.const_str KX G ?cz ?cw
      (case cz => k_is); (case cw => kernel_rfl)
    obtain ⟨fd, F, hb⟩ := Ov.law_fd D_law hmg (fun _ _ _ _ _ _ _ => rfl)
    exact ⟨fd, [T_good_name, T_number_from], hb, (fun T hT => by simp only [List.mem_cons, List.not_mem_nil, or_false] at hT; rcases hT with rfl | rfl <;> first | exact ⟨_, by simp, _, D_good_name⟩ | exact ⟨_, by simp, _, D_number_from⟩), fun base _ _ Bm => Ov.law_downG (Ov.all_ok Z g_FIGURES g_LONGEST g_MOST_FIGURES g_SIGNS O_NoTale (by simp_arith) (by simp_arith) (by simp_arith) (by simp_arith) D_good_name (by simp_arith) (by simp_arith) (by simp_arith) (by simp_arith) D_number_from (by simp_arith) (by simp_arith) (by simp_arith) (by simp_arith) (by simp_arith) (by simp_arith) (by simp_arith) F base Bm)⟩
