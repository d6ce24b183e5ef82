import PyProof.Rows.All
import Wide.All
import OpenK.AllK
import Wide.FinOn
import HandS.ForMost
import HandS.Deep
import HandS.DictComp
import HandS.TupAny
import HandS.IsInst
import HandS.Conv
import HandS.TupLen
import HandS.SortInts
import KE.GoesEnum
import HandS.SetBool
import HandS.TupSets
import HandS.Style
import PySem.Challenge.RW_roletalks_k00_whole_scripts
set_option Elab.async false
set_option linter.all false
set_option maxRecDepth 100000
set_option maxHeartbeats 4000000
/-! A layer over the hand layer: expressions and statements as functions on plain data. -/
namespace RT
open PySem PySem.Spec PyProof.Rows L2

inductive D where
  | none
  | bool (b : Bool)
  | int (i : Int)
  | str (x : Str)
  | list (xs : List D)
  | tuple (xs : List D)
  | dict (kvs : List (D × D))
  | dictT (kvs : List (D × D))
  | sets (ns : List Int)
mutual
def D.py : D → PyData
  | .none => .none
  | .bool b => .bool b
  | .int i => .int i
  | .str x => .str x
  | .list xs => .list (pyAll xs)
  | .tuple xs => .tuple (pyAll xs)
  | .dict _ => .dict []
  | .dictT _ => .dict []
  | .sets _ => .dict []
def pyAll : List D → List PyData
  | [] => []
  | x :: xs => D.py x :: pyAll xs
end
def shapedD (d : D) : Bool := SeqAt.shaped d.py
def eqD (d e : D) : Bool := PyData.eqv d.py e.py
structure FRow where
  ns : List Int
  a : Int
  b : Int
  c : Int
inductive OwD where
  | lst (ds : List D) | dk (ds : List (D × D)) | dt (ds : List (D × D))
def OwD.d : OwD → D
  | .lst ds => .list ds
  | .dk ds => .dict ds
  | .dt ds => .dictT ds
inductive FSl where
  | no | va (d : D) | ow (d : OwD) | rw
abbrev FEn := List FSl
inductive FRs where
  | nx (e : FEn) | rt (d : D) | bk (e : FEn) | ct (e : FEn)
abbrev FE := FEn → FRow → Option (D × FRow)
abbrev FT := FEn → FRow → Option (Bool × FRow)
abbrev FA := FEn → FRow → Option (List D × FRow)
abbrev FS := FEn → FRow → Option (FRs × FRow)

def keyD : L2.Key → D
  | .inl i => .int i
  | .inr x => .str x

mutual
inductive Rp (K : PySem.W.Frag) (O : Addr → Prop) (H : Hp) : V → D → Prop
  | non : Rp K O H .non .none
  | bl (b : Bool) : Rp K O H (.bl b) (.bool b)
  | int (i : Int) : Rp K O H (.int i) (.int i)
  | str (x : Str) : Rp K O H (.str x) (.str x)
  | lst {a : Addr} {xs : List V} {ds : List D} : ¬ O a → H a = some (.lst xs) → RpA K O H xs ds → Rp K O H (.ref a) (.list ds)
  | tup {a : Addr} {xs : List V} {ds : List D} : ¬ O a → H a = some (.tup xs) → RpA K O H xs ds → Rp K O H (.ref a) (.tuple ds)
  | dK {a : Addr} {kvs : List (L2.Key × V)} {ds : List (D × D)} : ¬ O a → H a = some (.dK kvs) → RpK K O H kvs ds → Rp K O H (.ref a) (.dict ds)
  | dT {a : Addr} {kvs : List (List L2.Key × V)} {ds : List (D × D)} : ¬ O a → H a = some (.dT kvs) → RpT K O H kvs ds → Rp K O H (.ref a) (.dictT ds)
inductive RpA (K : PySem.W.Frag) (O : Addr → Prop) (H : Hp) : List V → List D → Prop
  | nil : RpA K O H [] []
  | cons {v : V} {vs : List V} {d : D} {ds : List D} : Rp K O H v d → RpA K O H vs ds → RpA K O H (v :: vs) (d :: ds)
inductive RpK (K : PySem.W.Frag) (O : Addr → Prop) (H : Hp) : List (L2.Key × V) → List (D × D) → Prop
  | nil : RpK K O H [] []
  | cons {k : L2.Key} {v : V} {vs : List (L2.Key × V)} {d : D} {ds : List (D × D)} : Rp K O H v d → RpK K O H vs ds → RpK K O H ((k, v) :: vs) ((keyD k, d) :: ds)
inductive RpT (K : PySem.W.Frag) (O : Addr → Prop) (H : Hp) : List (List L2.Key × V) → List (D × D) → Prop
  | nil : RpT K O H [] []
  | cons {k : List L2.Key} {v : V} {vs : List (List L2.Key × V)} {d : D} {ds : List (D × D)} : Rp K O H v d → RpT K O H vs ds → RpT K O H ((k, v) :: vs) ((.tuple (k.map keyD), d) :: ds)
end

section
variable {K : PySem.W.Frag} {O O' : Addr → Prop} {H H' : Hp}
/-- what is not to change stays -/
def Keep (O : Addr → Prop) (H H' : Hp) : Prop := ∀ a o, ¬ O a → H a = some o → H' a = some o
def Wid (O O' : Addr → Prop) (H : Hp) : Prop := ∀ a, O' a → O a ∨ H a = none
theorem Wid.no (w : Wid O O' H) {a : Addr} {o : HO} (h : ¬ O a) (e : H a = some o) : ¬ O' a := fun z => by
  rcases w a z with q | q
  · exact h q
  · rw [q] at e; cases e
mutual
theorem Rp.move (k : Keep O H H') (w : Wid O O' H) : ∀ {v : V} {d : D}, Rp K O H v d → Rp K O' H' v d
  | _, _, .non => .non
  | _, _, .bl b => .bl b
  | _, _, .int i => .int i
  | _, _, .str x => .str x
  | _, _, .lst h e r => .lst (w.no h e) (k _ _ h e) (RpA.move k w r)
  | _, _, .tup h e r => .tup (w.no h e) (k _ _ h e) (RpA.move k w r)
  | _, _, .dK h e r => .dK (w.no h e) (k _ _ h e) (RpK.move k w r)
  | _, _, .dT h e r => .dT (w.no h e) (k _ _ h e) (RpT.move k w r)
theorem RpA.move (k : Keep O H H') (w : Wid O O' H) : ∀ {v : List V} {d : List D}, RpA K O H v d → RpA K O' H' v d
  | _, _, .nil => .nil
  | _, _, .cons a b => .cons (Rp.move k w a) (RpA.move k w b)
theorem RpK.move (k : Keep O H H') (w : Wid O O' H) : ∀ {v : List (L2.Key × V)} {d : List (D × D)}, RpK K O H v d → RpK K O' H' v d
  | _, _, .nil => .nil
  | _, _, .cons a b => .cons (Rp.move k w a) (RpK.move k w b)
theorem RpT.move (k : Keep O H H') (w : Wid O O' H) : ∀ {v : List (List L2.Key × V)} {d : List (D × D)}, RpT K O H v d → RpT K O' H' v d
  | _, _, .nil => .nil
  | _, _, .cons a b => .cons (Rp.move k w a) (RpT.move k w b)
end
theorem Wid.refl : Wid O O H := fun _ h => .inl h
theorem Keep.of (h : Same H H') : Keep O H H' := fun a o _ e => h a o e
theorem RpA.length : ∀ {v : List V} {d : List D}, RpA K O H v d → v.length = d.length
  | _, _, .nil => rfl
  | _, _, .cons _ b => by rw [List.length_cons, List.length_cons, RpA.length b]
theorem RpA.app : ∀ {v w : List V} {d e : List D}, RpA K O H v d → RpA K O H w e → RpA K O H (v ++ w) (d ++ e)
  | _, _, _, _, .nil, h => h
  | _, _, _, _, .cons a b, h => .cons a (RpA.app b h)
theorem RpA.get : ∀ {v : List V} {d : List D} {i : Nat} {x : D}, RpA K O H v d → d[i]? = some x → ∃ y, v[i]? = some y ∧ Rp K O H y x
  | _, _, _, _, .nil, h => by simp at h
  | _, _, 0, _, .cons a b, h => by simp at h; subst h; exact ⟨_, rfl, a⟩
  | _, _, i + 1, _, .cons a b, h => by
    obtain ⟨y, e, r⟩ := RpA.get (i := i) b (by simpa using h)
    exact ⟨y, by simpa using e, r⟩
theorem RpA.get' : ∀ {v : List V} {d : List D} {i : Nat} {y : V}, RpA K O H v d → v[i]? = some y → ∃ x, d[i]? = some x ∧ Rp K O H y x
  | _, _, _, _, .nil, h => by simp at h
  | _, _, 0, _, .cons a b, h => by simp at h; subst h; exact ⟨_, rfl, a⟩
  | _, _, i + 1, _, .cons a b, h => by
    obtain ⟨y, e, r⟩ := RpA.get' (i := i) b (by simpa using h)
    exact ⟨y, by simpa using e, r⟩
theorem RpA.take : ∀ {v : List V} {d : List D} (n : Nat), RpA K O H v d → RpA K O H (v.take n) (d.take n)
  | _, _, 0, _ => by simp; exact .nil
  | _, _, _ + 1, .nil => .nil
  | _, _, n + 1, .cons a b => .cons a (RpA.take n b)
theorem RpA.drop : ∀ {v : List V} {d : List D} (n : Nat), RpA K O H v d → RpA K O H (v.drop n) (d.drop n)
  | _, _, 0, h => h
  | _, _, _ + 1, .nil => .nil
  | _, _, n + 1, .cons a b => RpA.drop n b
theorem RpA.ints : ∀ {v : List V} {ns : List Int}, RpA K O H v (ns.map .int) → v = ns.map V.int
  | _, [], h => by cases h; rfl
  | _, n :: ns, h => by
    cases h with
    | cons a b => cases a; rw [RpA.ints b]; rfl
theorem RpA.ofInts : ∀ (ns : List Int), RpA K O H (ns.map V.int) (ns.map .int)
  | [] => .nil
  | n :: ns => .cons (.int n) (RpA.ofInts ns)
theorem RpA.bls : ∀ {v : List V} {ns : List Bool}, RpA K O H v (ns.map .bool) → v = ns.map V.bl
  | _, [], h => by cases h; rfl
  | _, n :: ns, h => by
    cases h with
    | cons a b => cases a; rw [RpA.bls b]; rfl
mutual
theorem Rp.dp : ∀ {v : V} {d : D}, Rp K O H v d → d.py.canLay0 = true → Dp K H v d.py
  | _, _, .non, _ => by simp only [D.py]; exact .non
  | _, _, .bl b, _ => by simp only [D.py]; exact .bl b
  | _, _, .int i, _ => by simp only [D.py]; exact .int i
  | _, _, .str x, _ => by simp only [D.py]; exact .str x
  | _, _, .lst h e r, s => by simp only [D.py] at s ⊢; exact .lst (.inl (.inl e)) (RpA.dp r (by simpa [PyData.canLay0] using s))
  | _, _, .tup h e r, s => by simp only [D.py] at s ⊢; exact .tup (.inl (.inl e)) (RpA.dp r (by simpa [PyData.canLay0] using s))
  | _, _, .dK _ _ _, s => by simp [D.py, PyData.canLay0] at s
  | _, _, .dT _ _ _, s => by simp [D.py, PyData.canLay0] at s
theorem RpA.dp : ∀ {v : List V} {d : List D}, RpA K O H v d → PyData.canLayAll0 (pyAll d) = true → DpAll K H v (pyAll d)
  | _, _, .nil, _ => by simp only [pyAll]; exact .nil
  | _, _, .cons a b, h => by
    simp only [pyAll] at h ⊢
    rw [PyData.canLayAll0, Bool.and_eq_true] at h
    exact .cons (Rp.dp a h.1) (RpA.dp b h.2)
end
theorem Rp.seqT {a : Addr} {ds : List D} (h : Rp K O H (.ref a) (.tuple ds)) : ∃ xs, SqT K H a xs ∧ RpA K O H xs ds := by
  cases h with
  | tup n e r => exact ⟨_, .inl (.inl e), r⟩
theorem Rp.tupAt {v : V} {ds : List D} (h : Rp K O H v (.tuple ds)) : ∃ a xs, v = .ref a ∧ H a = some (.tup xs) ∧ RpA K O H xs ds := by
  cases h with
  | tup n e r => exact ⟨_, _, rfl, e, r⟩
theorem Rp.isRef {v : V} {ds : List D} (h : Rp K O H v (.tuple ds)) : ∃ a, v = .ref a := by cases h <;> exact ⟨_, rfl⟩
end

/-! ### the state -/
structure FG where
  O0 : Addr → Prop
  H0 : Hp
  R : Option Addr
  gs : List (V × D)
def Le (g : FG) (H H' : Hp) : Prop := ∀ a o, g.R ≠ some a → H a = some o → H' a = some o
theorem Le.refl (g : FG) (H : Hp) : Le g H H := fun _ _ _ h => h
theorem Le.trans {g : FG} {H H1 H2 : Hp} (a : Le g H H1) (b : Le g H1 H2) : Le g H H2 := fun c o n h => b c o n (a c o n h)
theorem Le.of {g : FG} {H H' : Hp} (h : Same H H') : Le g H H' := fun a o _ e => h a o e
def RowAt (K : PySem.W.Frag) (H : Hp) (r : Addr) (x : FRow) : Prop := ∃ a0, H r = some (.lst [.ref a0, .int x.a, .int x.b, .int x.c]) ∧ ((∃ o, H a0 = some (.frz o (.lst (x.ns.map V.int)))) ∨ SqL K (fun _ => none) a0 (x.ns.map V.int))
def OwAt (K : PySem.W.Frag) (O : Addr → Prop) (H : Hp) (a : Addr) : OwD → Prop
  | .lst ds => ∃ xs, H a = some (.lst xs) ∧ RpA K O H xs ds
  | .dk ds => ∃ kvs, H a = some (.dK kvs) ∧ RpK K O H kvs ds
  | .dt ds => ∃ kvs, H a = some (.dT kvs) ∧ RpT K O H kvs ds
inductive SlOk (K : PySem.W.Frag) (g : FG) (O : Addr → Prop) (H : Hp) : Option V → FSl → Prop
  | no (s : Option V) : SlOk K g O H s .no
  | va {v : V} {d : D} : Rp K O H v d → SlOk K g O H (some v) (.va d)
  | ow {a : Addr} {d : OwD} : O a → ¬ g.O0 a → g.R ≠ some a → OwAt K O H a d → SlOk K g O H (some (.ref a)) (.ow d)
  | rw {r : Addr} : g.R = some r → SlOk K g O H (some (.ref r)) .rw
structure FSt (K : PySem.W.Frag) (g : FG) (O : Addr → Prop) (σ : L2.St) (H : Hp) (env : FEn) (x : FRow) : Prop where
  sub : ∀ a, g.O0 a → O a
  new : ∀ a, O a → g.O0 a ∨ g.H0 a = none
  dom : ∀ a, O a → Mut (H a)
  le : Le g g.H0 H
  row : ∀ r, g.R = some r → g.O0 r ∧ g.H0 r ≠ none ∧ RowAt K H r x
  len : σ.length = env.length
  sl : ∀ (i : Nat) s e, σ[i]? = some s → env[i]? = some e → SlOk K g O H s e
  dis : ∀ (i j : Nat) d d' a b, i ≠ j → env[i]? = some (.ow d) → env[j]? = some (.ow d') → σ[i]? = some (some (.ref a)) → σ[j]? = some (some (.ref b)) → a ≠ b
  gh : ∀ p ∈ g.gs, Rp K O H p.1 p.2
section
variable {K : PySem.W.Frag} {g : FG} {O : Addr → Prop} {σ : L2.St} {H H' : Hp} {env : FEn} {x x' : FRow}
theorem OwAt.move {O' : Addr → Prop} {a : Addr} {d : OwD} (h : OwAt K O H a d) (e : ∀ o, H a = some o → H' a = some o) (k : Keep O H H') (w : Wid O O' H) : OwAt K O' H' a d := by
  cases d with
  | lst ds => obtain ⟨xs, q, r⟩ := h; exact ⟨xs, e _ q, r.move k w⟩
  | dk ds => obtain ⟨xs, q, r⟩ := h; exact ⟨xs, e _ q, r.move k w⟩
  | dt ds => obtain ⟨xs, q, r⟩ := h; exact ⟨xs, e _ q, r.move k w⟩
theorem FSt.keep (S : FSt K g O σ H env x) (h : Le g H H') : Keep O H H' := fun a o n e => h a o (fun z => n (S.sub a (S.row a z).1)) e
/-- an expression went by: what is not the row's stays -/
theorem FSt.step (S : FSt K g O σ H env x) (h : Le g H H') (hr : ∀ r, g.R = some r → RowAt K H' r x') : FSt K g O σ H' env x' where
  sub := S.sub
  new := S.new
  dom := fun a ha => by
    have z := S.dom a ha
    cases q : H a with
    | none => rw [q] at z; exact z.elim
    | some o =>
      by_cases hR : g.R = some a
      · obtain ⟨a0, e, _⟩ := hr a hR
        rw [e]; exact True.intro
      · rw [h a o hR q, ← q]; exact z
  le := S.le.trans h
  row := fun r e => ⟨(S.row r e).1, (S.row r e).2.1, hr r e⟩
  len := S.len
  sl := fun i s e h1 h2 => by
    have k := S.keep h
    cases S.sl i s e h1 h2 with
    | no => exact .no _
    | va r => exact .va (r.move k .refl)
    | ow a b c d => exact .ow a b c (d.move (fun o q => h _ o c q) k .refl)
    | rw e => exact .rw e
  dis := S.dis
  gh := fun p hp => (S.gh p hp).move (S.keep h) .refl
theorem RowAt.same {r : Addr} (h : Same H H') (q : RowAt K H r x) : RowAt K H' r x := by
  obtain ⟨a0, e, q⟩ := q
  refine ⟨a0, h _ _ e, ?_⟩
  rcases q with ⟨o, q⟩ | q
  · exact .inl ⟨o, h _ _ q⟩
  · exact .inr q
theorem FSt.same (S : FSt K g O σ H env x) (h : Same H H') : FSt K g O σ H' env x := S.step (.of h) fun r e => (S.row r e).2.2.same h
theorem same_upd {p : Addr} {o : HO} (h : H p = none) : Same H (upd H p o) := fun b x e => by
  rw [upd_ne (ne_of_none e h)]
  exact e
theorem FSt.notO (S : FSt K g O σ H env x) {p : Addr} (h : H p = none) : ¬ O p := fun z => by
  have q := S.dom p z
  rw [h] at q
  exact q
end

/-! ### readings -/
def tE (K : PySem.W.Frag) (f : FE) : TE := fun σ H Q => ∃ g O env x d x', FSt K g O σ H env x ∧ f env x = some (d, x') ∧
  ∀ v H', FSt K g O σ H' env x' → Le g H H' → Rp K O H' v d → Q v H'
/-- borrowed: what an owned name holds, too -/
def RpB (K : PySem.W.Frag) (g : FG) (O : Addr → Prop) (H : Hp) (v : V) (d : D) : Prop := Rp K O H v d ∨ ∃ a w, v = .ref a ∧ d = OwD.d w ∧ O a ∧ g.R ≠ some a ∧ OwAt K O H a w
def tB (K : PySem.W.Frag) (f : FE) : TE := fun σ H Q => ∃ g O env x d x', FSt K g O σ H env x ∧ f env x = some (d, x') ∧
  ∀ v H', FSt K g O σ H' env x' → Le g H H' → RpB K g O H' v d → Q v H'
def tT (K : PySem.W.Frag) (f : FT) : TT := fun σ H Q => ∃ g O env x d x', FSt K g O σ H env x ∧ f env x = some (d, x') ∧
  ∀ H', FSt K g O σ H' env x' → Le g H H' → Q d H'
def tA (K : PySem.W.Frag) (f : FA) : TA := fun σ H Q => ∃ g O env x d x', FSt K g O σ H env x ∧ f env x = some (d, x') ∧
  ∀ v H', FSt K g O σ H' env x' → Le g H H' → RpA K O H' v d → Q v H'
def tS (K : PySem.W.Frag) (f : FS) : TS := fun Dn σ H => ∃ g O env x r x', FSt K g O σ H env x ∧ f env x = some (r, x') ∧
  match r with
  | .nx env' => ∀ O' σ' H', FSt K g O' σ' H' env' x' → Dn.nx σ' H'
  | .bk env' => ∀ O' σ' H', FSt K g O' σ' H' env' x' → Dn.bk σ' H'
  | .ct env' => ∀ O' σ' H', FSt K g O' σ' H' env' x' → Dn.ct σ' H'
  | .rt d => ∀ O' σ' H' v env', FSt K g O' σ' H' env' x' → Rp K O' H' v d → Dn.rt v H'
structure SE (X : Cx) (e : Expr) (f : FE) : Prop where
  out : PE X e (tE X.K f)
structure SB (X : Cx) (e : Expr) (f : FE) : Prop where
  out : PE X e (tB X.K f)
structure ST (X : Cx) (e : Expr) (f : FT) : Prop where
  out : PT X e (tT X.K f)
structure SA (X : Cx) (e : List Expr) (f : FA) : Prop where
  out : PA X e (tA X.K f)
structure SS (X : Cx) (e : Stmt) (f : FS) : Prop where
  out : PS X e (tS X.K f)
structure SSs (X : Cx) (e : List Stmt) (f : FS) : Prop where
  out : PSs X e (tS X.K f)
section
variable {X : Cx} {e : Expr} {t t' : TE}
theorem PEw (h : PE X e t) (q : ∀ σ H Q, t' σ H Q → t σ H Q) : PE X e t' := ⟨fun pins s σ H Q I z => h.run pins s σ H Q I (q _ _ _ z)⟩
theorem PTw {t t' : TT} (h : PT X e t) (q : ∀ σ H Q, t' σ H Q → t σ H Q) : PT X e t' := ⟨fun pins s σ H Q I z => h.run pins s σ H Q I (q _ _ _ z)⟩
theorem PAw {e : List Expr} {t t' : TA} (h : PA X e t) (q : ∀ σ H Q, t' σ H Q → t σ H Q) : PA X e t' := ⟨fun p pins s σ H Q I z => h.run p pins s σ H Q I (q _ _ _ z)⟩
theorem PSw {e : Stmt} {t t' : TS} (h : PS X e t) (q : ∀ σ H Q, t' σ H Q → t σ H Q) : PS X e t' := ⟨fun pins s σ H Q I z => h.run pins s σ H Q I (q _ _ _ z)⟩
theorem PSsw {e : List Stmt} {t t' : TS} (h : PSs X e t) (q : ∀ σ H Q, t' σ H Q → t σ H Q) : PSs X e t' := ⟨fun pins s σ H Q I z => h.run pins s σ H Q I (q _ _ _ z)⟩
end

/-! ### names, constants -/
section
variable {X : Cx}
def fVar (i : Nat) : FE := fun env x => match env[i]? with
  | some (.va d) => some (d, x)
  | _ => none
def fBor (i : Nat) : FE := fun env x => match env[i]? with
  | some (.va d) => some (d, x)
  | some (.ow d) => some (d.d, x)
  | _ => none
def fC (d : D) : FE := fun _ x => some (d, x)
theorem FSt.at {K : PySem.W.Frag} {g : FG} {O : Addr → Prop} {σ : L2.St} {H : Hp} {env : FEn} {x : FRow} (S : FSt K g O σ H env x) {i : Nat} {e : FSl} (h : env[i]? = some e) : ∃ s, σ[i]? = some s ∧ SlOk K g O H s e := by
  have hi : i < σ.length := by rw [S.len]; exact (List.getElem?_eq_some_iff.mp h).1
  exact ⟨_, List.getElem?_eq_getElem hi, S.sl i _ e (List.getElem?_eq_getElem hi) h⟩
theorem se_var (i : Nat) {n : Str} {pos : Pos} (hN : X.N[i]? = some n := by rfl) (hv : Vis X.env.scope n := by first | exact Or.inl rfl | exact Or.inr (Or.inl rfl) | exact Or.inr (Or.inr rfl)) (hd : (n == ("__debug__" : Str)) = false := by decide)
    (hcd : (n == ("__classdict__" : Str)) = false := by decide) : SE X (.Name n pos) (fVar i) := by
  refine ⟨PEw (pe_var hN hv hd hcd) fun σ H Q h => ?_⟩
  obtain ⟨g, O, env, x, d, x', S, e, k⟩ := h
  unfold fVar at e
  split at e
  · rename_i q
    cases e
    obtain ⟨s, e1, q1⟩ := S.at q
    cases q1 with
    | va r => exact ⟨_, e1, k _ _ S (Le.refl _ _) r⟩
  · cases e
theorem sb_var (i : Nat) {n : Str} {pos : Pos} (hN : X.N[i]? = some n := by rfl) (hv : Vis X.env.scope n := by first | exact Or.inl rfl | exact Or.inr (Or.inl rfl) | exact Or.inr (Or.inr rfl)) (hd : (n == ("__debug__" : Str)) = false := by decide)
    (hcd : (n == ("__classdict__" : Str)) = false := by decide) : SB X (.Name n pos) (fBor i) := by
  refine ⟨PEw (pe_var hN hv hd hcd) fun σ H Q h => ?_⟩
  obtain ⟨g, O, env, x, d, x', S, e, k⟩ := h
  unfold fBor at e
  split at e
  · rename_i q
    cases e
    obtain ⟨s, e1, q1⟩ := S.at q
    cases q1 with
    | va r => exact ⟨_, e1, k _ _ S (Le.refl _ _) (.inl r)⟩
  · rename_i q
    cases e
    obtain ⟨s, e1, q1⟩ := S.at q
    cases q1 with
    | ow a b c r => exact ⟨_, e1, k _ _ S (Le.refl _ _) (.inr ⟨_, _, rfl, rfl, a, c, r⟩)⟩
  · cases e
theorem sb_of {e : Expr} {f : FE} (h : SE X e f) : SB X e f := by
  refine ⟨PEw h.out fun σ H Q h => ?_⟩
  obtain ⟨g, O, env, x, d, x', S, e, k⟩ := h
  exact ⟨g, O, env, x, d, x', S, e, fun v H' S' l r => k v H' S' l (.inl r)⟩
theorem se_c {e : Expr} {v : V} {d : D} (h : PE X e (tC v)) (r : ∀ K O H, Rp K O H v d) : SE X e (fC d) := by
  refine ⟨PEw h fun σ H Q h => ?_⟩
  obtain ⟨g, O, env, x, d, x', S, e, k⟩ := h
  cases e
  exact k _ _ S (Le.refl _ _) (r _ _ _)
theorem se_int {i j pos} : SE X (.Constant (.int i) j pos) (fC (.int i)) := se_c pe_int fun _ _ _ => .int i
theorem se_bl {i j pos} : SE X (.Constant (.bool i) j pos) (fC (.bool i)) := se_c pe_bl fun _ _ _ => .bl i
theorem se_str {i j pos} : SE X (.Constant (.str i) j pos) (fC (.str i)) := se_c pe_str fun _ _ _ => .str i
theorem se_non {j pos} : SE X (.Constant .none j pos) (fC .none) := se_c pe_non fun _ _ _ => .non
/-- a constant of the module -/
theorem se_glob {n : Str} {v : V} {d : D} {u : Value} {pos : Pos} (hg : Gl X n) (hm : X.mg n = some u) (r : RelV v u) (q : ∀ K O H, Rp K O H v d) (hd : (n == ("__debug__" : Str)) = false := by decide) : SE X (.Name n pos) (fC d) := se_c (pe_glob hg hm r hd) q

/-! ### argument lists, displays -/
def aNil : FA := fun _ x => some ([], x)
def aCons (f : FE) (t : FA) : FA := fun env x => match f env x with
  | some (d, x1) => match t env x1 with
    | some (ds, x2) => some (d :: ds, x2)
    | none => none
  | none => none
theorem sa_nil : SA X [] aNil := by
  refine ⟨PAw pa_nil fun σ H Q h => ?_⟩
  obtain ⟨g, O, env, x, d, x', S, e, k⟩ := h
  cases e
  exact k _ _ S (Le.refl _ _) .nil
theorem sa_cons {e : Expr} {es : List Expr} {f : FE} {t : FA} (h : SE X e f) (ht : SA X es t) (hs : starEach (e :: es) X.env = (false, eval e X.env) :: starEach es X.env := by rfl) : SA X (e :: es) (aCons f t) := by
  refine ⟨PAw (pa_cons h.out ht.out hs) fun σ H Q h => ?_⟩
  obtain ⟨g, O, env, x, d, x', S, e, k⟩ := h
  unfold aCons at e
  split at e
  · rename_i d1 x1 e1
    split at e
    · rename_i ds x2 e2
      cases e
      refine ⟨g, O, env, x, d1, x1, S, e1, fun v H1 S1 l1 r1 => ?_⟩
      refine ⟨g, O, env, x1, ds, x', S1, e2, fun vs H2 S2 l2 r2 => ?_⟩
      exact k _ _ S2 (l1.trans l2) (.cons (r1.move (S1.keep l2) .refl) r2)
    · cases e
  · cases e
def maxLen : Nat := 1000000
theorem maxLen_ok {n : Nat} (h : n ≤ maxLen) : n ≤ sizeLine := Nat.le_trans h (by rw [sizeLine_eq]; decide)
def fTup (t : FA) : FE := fun env x => match t env x with
  | some (ds, x1) => if ds.length ≤ maxLen then some (.tuple ds, x1) else none
  | none => none
def fLst (t : FA) : FE := fun env x => match t env x with
  | some (ds, x1) => if ds.length ≤ maxLen then some (.list ds, x1) else none
  | none => none
theorem se_tup {es : List Expr} {f : FA} {k : Nat} {pos : Pos} (h : SA X es f) : SE X (.Tuple es k pos) (fTup f) := by
  refine ⟨PEw (pe_tup h.out) fun σ H Q h => ?_⟩
  obtain ⟨g, O, env, x, d, x', S, e, k⟩ := h
  unfold fTup at e
  split at e
  · rename_i ds x1 e1
    split at e
    · rename_i hl
      cases e
      refine ⟨g, O, env, x, ds, x', S, e1, fun v H1 S1 l1 r1 => ⟨by rw [r1.length]; exact maxLen_ok hl, fun p hp => ?_⟩⟩
      have sm := same_upd (o := .tup v) hp
      exact k _ _ (S1.same sm) (l1.trans (.of sm)) (.tup (S1.notO hp) upd_same (r1.move (.of sm) .refl))
    · cases e
  · cases e
theorem se_lst {es : List Expr} {f : FA} {pos : Pos} (h : SA X es f) : SE X (.List es pos) (fLst f) := by
  refine ⟨PEw (pe_lst h.out) fun σ H Q h => ?_⟩
  obtain ⟨g, O, env, x, d, x', S, e, k⟩ := h
  unfold fLst at e
  split at e
  · rename_i ds x1 e1
    split at e
    · rename_i hl
      cases e
      refine ⟨g, O, env, x, ds, x', S, e1, fun v H1 S1 l1 r1 => ⟨by rw [r1.length]; exact maxLen_ok hl, fun p hp => ?_⟩⟩
      have sm := same_upd (o := .lst v) hp
      exact k _ _ (S1.same sm) (l1.trans (.of sm)) (.lst (S1.notO hp) upd_same (r1.move (.of sm) .refl))
    · cases e
  · cases e
end
end RT

namespace RT
open PySem PySem.Spec PyProof.Rows L2
section
variable {K : PySem.W.Frag} {g : FG} {O O' : Addr → Prop} {σ : L2.St} {H H' : Hp} {env : FEn} {x x' : FRow}
theorem RpB.step {v : V} {d : D} (S : FSt K g O σ H env x) (h : Le g H H') (r : RpB K g O H v d) : RpB K g O H' v d := by
  rcases r with r | ⟨a, w, rfl, rfl, ha, hr, z⟩
  · exact .inl (r.move (S.keep h) .refl)
  · exact .inr ⟨a, w, rfl, rfl, ha, hr, z.move (fun o q => h a o hr q) (S.keep h) .refl⟩
theorem Rp.step {v : V} {d : D} (S : FSt K g O σ H env x) (h : Le g H H') (r : Rp K O H v d) : Rp K O H' v d := r.move (S.keep h) .refl
theorem RpA.step {v : List V} {d : List D} (S : FSt K g O σ H env x) (h : Le g H H') (r : RpA K O H v d) : RpA K O H' v d := r.move (S.keep h) .refl
/-- what is borrowed and no list, no dict is plain -/
theorem RpB.tup {v : V} {ds : List D} (r : RpB K g O H v (.tuple ds)) : Rp K O H v (.tuple ds) := by
  rcases r with r | ⟨a, w, rfl, e, ha, hr, z⟩
  · exact r
  · cases w <;> cases e
theorem RpB.int {v : V} {i : Int} (r : RpB K g O H v (.int i)) : v = .int i := by
  rcases r with r | ⟨a, w, rfl, e, ha, hr, z⟩
  · cases r; rfl
  · cases w <;> cases e
theorem RpB.bl {v : V} {i : Bool} (r : RpB K g O H v (.bool i)) : v = .bl i := by
  rcases r with r | ⟨a, w, rfl, e, ha, hr, z⟩
  · cases r; rfl
  · cases w <;> cases e
theorem RpB.str {v : V} {i : Str} (r : RpB K g O H v (.str i)) : v = .str i := by
  rcases r with r | ⟨a, w, rfl, e, ha, hr, z⟩
  · cases r; rfl
  · cases w <;> cases e
theorem RpB.non {v : V} (r : RpB K g O H v .none) : v = .non := by
  rcases r with r | ⟨a, w, rfl, e, ha, hr, z⟩
  · cases r; rfl
  · cases w <;> cases e
theorem RpB.lst {v : V} {ds : List D} (r : RpB K g O H v (.list ds)) : ∃ a xs, v = .ref a ∧ H a = some (.lst xs) ∧ RpA K O H xs ds := by
  rcases r with r | ⟨a, w, rfl, e, ha, hr, z⟩
  · cases r with
    | lst n e r => exact ⟨_, _, rfl, e, r⟩
  · cases w with
    | lst ds' =>
      cases e
      obtain ⟨xs, e, r⟩ := z
      exact ⟨_, _, rfl, e, r⟩
    | _ => cases e
theorem RpB.seq {v : V} {ds : List D} {d : D} (h : d = .list ds ∨ d = .tuple ds) (r : RpB K g O H v d) : ∃ a xs, v = .ref a ∧ (SqL K H a xs ∨ SqT K H a xs) ∧ RpA K O H xs ds := by
  rcases h with rfl | rfl
  · obtain ⟨a, xs, e, q, r⟩ := r.lst
    exact ⟨a, xs, e, .inl (.of q), r⟩
  · have r := r.tup
    obtain ⟨a, rfl⟩ := r.isRef
    obtain ⟨xs, q, r⟩ := r.seqT
    exact ⟨a, xs, rfl, .inr q, r⟩
theorem RpB.dct {v : V} {ds : List (D × D)} (r : RpB K g O H v (.dict ds)) : ∃ a kvs, v = .ref a ∧ H a = some (.dK kvs) ∧ RpK K O H kvs ds := by
  rcases r with r | ⟨a, w, rfl, e, ha, hr, z⟩
  · cases r with
    | dK n e r => exact ⟨_, _, rfl, e, r⟩
  · cases w with
    | dk ds' =>
      cases e
      obtain ⟨kvs, e, r⟩ := z
      exact ⟨_, _, rfl, e, r⟩
    | _ => cases e
theorem RpB.dcT {v : V} {ds : List (D × D)} (r : RpB K g O H v (.dictT ds)) : ∃ a kvs, v = .ref a ∧ H a = some (.dT kvs) ∧ RpT K O H kvs ds := by
  rcases r with r | ⟨a, w, rfl, e, ha, hr, z⟩
  · cases r with
    | dT n e r => exact ⟨_, _, rfl, e, r⟩
  · cases w with
    | dt ds' =>
      cases e
      obtain ⟨kvs, e, r⟩ := z
      exact ⟨_, _, rfl, e, r⟩
    | _ => cases e
theorem RpB.dp {v : V} {d : D} (r : RpB K g O H v d) (s : shapedD d = true) : Dp K H v d.py := by
  have s := SeqAt.canLay_of_shaped s
  rcases r with r | ⟨a, w, rfl, e, ha, hr, z⟩
  · exact r.dp s
  · cases w with
    | lst ds' =>
      subst e
      obtain ⟨xs, e, r⟩ := z
      simp only [OwD.d, D.py] at s ⊢
      exact .lst (.of e) (r.dp (by simpa [PyData.canLay0] using s))
    | _ => subst e; simp [OwD.d, D.py, PyData.canLay0] at s
/-- two expressions in a row -/
theorem two {fa fb : FE} {R : V → V → Hp → Prop} {d e : D} {x1 x2 : FRow} (S : FSt K g O σ H env x) (h1 : fa env x = some (d, x1)) (h2 : fb env x1 = some (e, x2))
    (k : ∀ v w H', FSt K g O σ H' env x2 → Le g H H' → RpB K g O H' v d → RpB K g O H' w e → R v w H') : tB K fa σ H fun v H1 => tB K fb σ H1 fun w H2 => R v w H2 :=
  ⟨g, O, env, x, d, x1, S, h1, fun v H1 S1 l1 r1 => ⟨g, O, env, x1, e, x2, S1, h2, fun w H2 S2 l2 r2 => k v w H2 S2 (l1.trans l2) (r1.step S1 l2) r2⟩⟩
end

/-! ### operators -/
def OpD (X : Cx) (fop : Value → Value → Sem Value) (gd : D → D → Option D) : Prop :=
  OpR X fop fun v w H Q => ∃ g O σ env x d e r, FSt X.K g O σ H env x ∧ RpB X.K g O H v d ∧ RpB X.K g O H w e ∧ gd d e = some r ∧ ∀ u H', Same H H' → Rp X.K O H' u r → Q u H'
def fBin (gd : D → D → Option D) (fa fb : FE) : FE := fun env x => match fa env x with
  | some (d, x1) => match fb env x1 with
    | some (e, x2) => match gd d e with
      | some r => some (r, x2)
      | none => none
    | none => none
  | none => none
theorem fBin_some {gd : D → D → Option D} {fa fb : FE} {env : FEn} {x : FRow} {p : D × FRow} (h : fBin gd fa fb env x = some p) : ∃ d x1 e r, fa env x = some (d, x1) ∧ fb env x1 = some (e, p.2) ∧ gd d e = some r ∧ r = p.1 := by
  unfold fBin at h
  split at h
  · split at h
    · split at h
      · cases h
        exact ⟨_, _, _, _, by assumption, by assumption, by assumption, rfl⟩
      · cases h
    · cases h
  · cases h
section
variable {X : Cx} {a b : Expr} {fa fb : FE} {pos : Pos}
theorem se_op {op : Operator} {gd : D → D → Option D} (ho : OpD X (binaryOp op) gd) (ha : SB X a fa) (hb : SB X b fb) : SE X (.BinOp a op b pos) (fBin gd fa fb) := by
  refine ⟨PEw (pe_op ho ha.out hb.out) fun σ H Q h => ?_⟩
  obtain ⟨g, O, env, x, d, x', S, e, k⟩ := h
  obtain ⟨da, x1, db, r, e1, e2, e3, rfl⟩ := fBin_some e
  exact two S e1 e2 fun v w H' S' l rv rw => ⟨g, O, σ, env, x', da, db, _, S', rv, rw, e3, fun u H2 sm q => k u H2 (S'.same sm) (l.trans (.of sm)) q⟩
theorem se_cmp {op : CmpOp} {gd : D → D → Option D} (ho : OpD X (compareOp op) gd) (ha : SB X a fa) (hb : SB X b fb) (hm : behindInMarks op b = false) : SE X (.Compare a [op] [b] pos) (fBin gd fa fb) := by
  refine ⟨PEw (pe_cmpR ho ha.out hb.out hm) fun σ H Q h => ?_⟩
  obtain ⟨g, O, env, x, d, x', S, e, k⟩ := h
  obtain ⟨da, x1, db, r, e1, e2, e3, rfl⟩ := fBin_some e
  exact two S e1 e2 fun v w H' S' l rv rw => ⟨g, O, σ, env, x', da, db, _, S', rv, rw, e3, fun u H2 sm q => k u H2 (S'.same sm) (l.trans (.of sm)) q⟩
/-- a test whose value is a bool -/
def fTst (f : FE) : FT := fun env x => match f env x with
  | some (.bool b, x1) => some (b, x1)
  | _ => none
theorem fTst_some {f : FE} {env : FEn} {x : FRow} {p : Bool × FRow} (h : fTst f env x = some p) : f env x = some (.bool p.1, p.2) := by
  unfold fTst at h
  split at h
  · cases h; assumption
  · cases h
theorem st_cmp {op : CmpOp} {gd : D → D → Option D} (ho : OpD X (compareOp op) gd) (ha : SB X a fa) (hb : SB X b fb) (hm : behindInMarks op b = false) : ST X (.Compare a [op] [b] pos) (fTst (fBin gd fa fb)) := by
  refine ⟨PTw (pt_cmpR ho ha.out hb.out hm) fun σ H Q h => ?_⟩
  obtain ⟨g, O, env, x, d, x', S, e, k⟩ := h
  obtain ⟨da, x1, db, r, e1, e2, e3, e4⟩ := fBin_some (fTst_some e)
  refine two S e1 e2 fun v w H' S' l rv rw => ⟨g, O, σ, env, x', da, db, _, S', rv, rw, e3, fun u H2 sm q => ?_⟩
  simp only at e4
  rw [e4] at q
  cases q
  exact ⟨_, rfl, k H2 (S'.same sm) (l.trans (.of sm))⟩
def gOr (g1 g2 : D → D → Option D) : D → D → Option D := fun d e => match g1 d e with
  | some r => some r
  | none => g2 d e
theorem OpD.or {f : Value → Value → Sem Value} {g1 g2 : D → D → Option D} (h1 : OpD X f g1) (h2 : OpD X f g2) : OpD X f (gOr g1 g2) := by
  intro pins s σ H x y v u Q I rx ry h
  obtain ⟨g, O, σ', env, x, d, e, r, S, rv, rw, q, k⟩ := h
  unfold gOr at q
  split at q
  · rename_i r' q'
    cases q
    exact h1 pins s σ H _ _ v u Q I rx ry ⟨g, O, σ', env, x, d, e, r, S, rv, rw, q', k⟩
  · exact h2 pins s σ H _ _ v u Q I rx ry ⟨g, O, σ', env, x, d, e, r, S, rv, rw, q, k⟩
/-- from a rule of the layer -/
theorem OpD.by {f : Value → Value → Sem Value} {r : R2} {gd : D → D → Option D} (h : OpR X f r)
    (q : ∀ g O σ env x d e z H v w Q, FSt X.K g O σ H env x → RpB X.K g O H v d → RpB X.K g O H w e → gd d e = some z → (∀ u H', Same H H' → Rp X.K O H' u z → Q u H') → r v w H Q) : OpD X f gd := by
  intro pins s σ H x y v u Q I rx ry h2
  obtain ⟨g, O, σ', env, x, d, e, r, S, rv, rw, q', k⟩ := h2
  exact h pins s σ H _ _ v u Q I rx ry (q _ _ _ _ _ _ _ _ _ _ _ _ S rv rw q' k)
def gI (p : Int → Int → Bool) (c : Int → Int → D) : D → D → Option D
  | .int i, .int j => if p i j then some (c i j) else none
  | _, _ => none
theorem gI_some {p : Int → Int → Bool} {c : Int → Int → D} {d e z : D} (h : gI p c d e = some z) : ∃ i j, d = .int i ∧ e = .int j ∧ p i j = true ∧ z = c i j := by
  unfold gI at h
  split at h
  · split at h
    · cases h; exact ⟨_, _, rfl, rfl, by assumption, rfl⟩
    · cases h
  · cases h
abbrev yes2 : Int → Int → Bool := fun _ _ => true
theorem od_int0 {f : Value → Value → Sem Value} {c : Int → Int → Int} (h : OpR X f (rI0 fun i j => .int (c i j))) : OpD X f (gI yes2 fun i j => .int (c i j)) := by
  refine OpD.by h fun g O σ env x d e z H v w Q S rv rw q k => ?_
  obtain ⟨i, j, rfl, rfl, _, rfl⟩ := gI_some q
  exact ⟨i, j, rv.int, rw.int, k _ _ (Same.refl _) (.int _)⟩
theorem od_bool0 {f : Value → Value → Sem Value} {c : Int → Int → Bool} (h : OpR X f (rI0 fun i j => .bl (c i j))) : OpD X f (gI yes2 fun i j => .bool (c i j)) := by
  refine OpD.by h fun g O σ env x d e z H v w Q S rv rw q k => ?_
  obtain ⟨i, j, rfl, rfl, _, rfl⟩ := gI_some q
  exact ⟨i, j, rv.int, rw.int, k _ _ (Same.refl _) (.bl _)⟩
theorem od_intC {f : Value → Value → Sem Value} {C : Int → Int → Prop} {p : Int → Int → Bool} {c : Int → Int → Int} (h : OpR X f (rI C fun i j => .int (c i j))) (hp : ∀ i j, p i j = true → C i j) : OpD X f (gI p fun i j => .int (c i j)) := by
  refine OpD.by h fun g O σ env x d e z H v w Q S rv rw q k => ?_
  obtain ⟨i, j, rfl, rfl, hq, rfl⟩ := gI_some q
  exact ⟨i, j, rv.int, rw.int, hp _ _ hq, k _ _ (Same.refl _) (.int _)⟩
abbrev gAddI := gI yes2 fun i j => .int (i + j)
abbrev gSubI := gI yes2 fun i j => .int (i - j)
def pMul (i j : Int) : Bool := decide (-(2 ^ 64) < i ∧ i < 2 ^ 64) || decide (-(2 ^ 64) < j ∧ j < 2 ^ 64)
def pDiv (_ j : Int) : Bool := decide (0 < j ∧ j < 1073741824)
def pMod (_ j : Int) : Bool := decide (0 < j)
def pPow (i j : Int) : Bool := decide (0 ≤ j ∧ j ≤ 1000000 ∧ i.natAbs < 2 ^ 64)
abbrev gMulI := gI pMul fun i j => .int (i * j)
abbrev gDivI := gI pDiv fun i j => .int (i / j)
abbrev gModI := gI pMod fun i j => .int (i % j)
abbrev gPowI := gI pPow fun i j => .int (i ^ j.toNat)
theorem od_add : OpD X (binaryOp .Add) gAddI := od_int0 op_add
theorem od_sub : OpD X (binaryOp .Sub) gSubI := od_int0 op_sub
theorem od_mul : OpD X (binaryOp .Mult) gMulI := od_intC op_mul fun i j h => by
  rcases Bool.or_eq_true_iff.mp h with h | h
  · exact .inl (of_decide_eq_true h)
  · exact .inr (of_decide_eq_true h)
theorem od_div : OpD X (binaryOp .FloorDiv) gDivI := od_intC op_fdiv fun i j h => (show 0 < j ∧ j < 1073741824 from of_decide_eq_true h)
theorem od_mod : OpD X (binaryOp .Mod) gModI := od_intC op_mod fun i j h => of_decide_eq_true h
theorem od_pow : OpD X (binaryOp .Pow) gPowI := od_intC op_pow fun i j h => (show 0 ≤ j ∧ j ≤ 1000000 ∧ i.natAbs < 2 ^ 64 from of_decide_eq_true h)
theorem od_lt : OpD X (compareOp .Lt) (gI yes2 fun i j => .bool (decide (i < j))) := od_bool0 op_lt
theorem od_le : OpD X (compareOp .LtE) (gI yes2 fun i j => .bool (decide (i ≤ j))) := od_bool0 op_le
theorem od_gt : OpD X (compareOp .Gt) (gI yes2 fun i j => .bool (decide (j < i))) := od_bool0 op_gt
theorem od_ge : OpD X (compareOp .GtE) (gI yes2 fun i j => .bool (decide (j ≤ i))) := od_bool0 op_ge
/-- tuple + tuple, list + list -/
def gCatT : D → D → Option D
  | .tuple xs, .tuple ys => if xs.length + ys.length ≤ maxLen then some (.tuple (xs ++ ys)) else none
  | _, _ => none
def gCatL : D → D → Option D
  | .list xs, .list ys => if xs.length + ys.length ≤ maxLen then some (.list (xs ++ ys)) else none
  | _, _ => none
theorem od_catT : OpD X (binaryOp .Add) gCatT := by
  refine OpD.by op_catA fun g O σ env x d e z H v w Q S rv rw q k => ?_
  unfold gCatT at q
  split at q
  · rename_i ds es
    split at q
    · rename_i hl
      cases q
      have rv := rv.tup
      have rw := rw.tup
      obtain ⟨p1, rfl⟩ := rv.isRef
      obtain ⟨p2, rfl⟩ := rw.isRef
      obtain ⟨xs, q1, r1⟩ := rv.seqT
      obtain ⟨ys, q2, r2⟩ := rw.seqT
      refine ⟨p1, p2, xs, ys, rfl, rfl, q1, q2, by rw [r1.length, r2.length]; exact maxLen_ok hl, fun e => ?_, fun _ e => ?_, fun _ _ p hp => ?_⟩
      · subst e
        cases r1
        exact k _ _ (Same.refl _) rw
      · subst e
        cases r2
        rw [List.append_nil] at k
        exact k _ _ (Same.refl _) rv
      · have sm := same_upd (o := .tup (xs ++ ys)) hp
        exact k _ _ sm (.tup (S.notO hp) upd_same ((r1.app r2).move (.of sm) .refl))
    · cases q
  · cases q
theorem od_catL : OpD X (binaryOp .Add) gCatL := by
  refine OpD.by op_cat fun g O σ env x d e z H v w Q S rv rw q k => ?_
  unfold gCatL at q
  split at q
  · rename_i ds es
    split at q
    · rename_i hl
      cases q
      obtain ⟨p1, xs, rfl, q1, r1⟩ := rv.lst
      obtain ⟨p2, ys, rfl, q2, r2⟩ := rw.lst
      refine ⟨p1, p2, xs, ys, rfl, rfl, q1, q2, by rw [r1.length, r2.length]; exact maxLen_ok hl, fun p hp => ?_⟩
      have sm := same_upd (o := .lst (xs ++ ys)) hp
      exact k _ _ sm (.lst (S.notO hp) upd_same ((r1.app r2).move (.of sm) .refl))
    · cases q
  · cases q
theorem RpA.rep {K : PySem.W.Frag} {O : Addr → Prop} {H : Hp} {xs : List V} {ds : List D} (r : RpA K O H xs ds) : ∀ k : Nat, RpA K O H (List.replicate k xs).flatten (List.replicate k ds).flatten
  | 0 => .nil
  | k + 1 => by
    rw [List.replicate_succ, List.replicate_succ, List.flatten_cons, List.flatten_cons]
    exact r.app (RpA.rep r k)
/-- list * int -/
def gRepL : D → D → Option D
  | .list xs, .int k => if 0 ≤ k ∧ k ≤ 1000 ∧ xs.length ≤ 1000 then some (.list (List.replicate k.toNat xs).flatten) else none
  | _, _ => none
theorem od_repL : OpD X (binaryOp .Mult) gRepL := by
  refine OpD.by op_rep fun g O σ env x d e z H v w Q S rv rw q k => ?_
  unfold gRepL at q
  split at q
  · rename_i ds j
    split at q
    · rename_i hl
      cases q
      obtain ⟨p1, xs, rfl, q1, r1⟩ := rv.lst
      have lx : xs.length * j.toNat ≤ 1000000 := by
        rw [r1.length]
        exact Nat.le_trans (Nat.mul_le_mul hl.2.2 (show j.toNat ≤ 1000 by omega)) (by decide)
      refine ⟨p1, j, xs, rfl, rw.int, q1, by omega, by omega, maxLen_ok lx, fun p hp => ?_⟩
      have sm := same_upd (o := .lst (List.replicate j.toNat xs).flatten) hp
      exact k _ _ sm (.lst (S.notO hp) upd_same ((r1.rep _).move (.of sm) .refl))
    · cases q
  · cases q
/-- ==, != of data -/
def gEq : D → D → Option D := fun d e => if shapedD d && shapedD e then some (.bool (eqD d e)) else none
def gNe : D → D → Option D := fun d e => if shapedD d && shapedD e then some (.bool (!eqD d e)) else none
theorem od_eq (hu : X.A.units + 64 < cLine) : OpD X (compareOp .Eq) gEq := by
  refine OpD.by (op_eqD hu) fun g O σ env x d e z H v w Q S rv rw q k => ?_
  unfold gEq at q
  split at q
  · rename_i h
    cases q
    obtain ⟨h1, h2⟩ := Bool.and_eq_true_iff.mp h
    exact ⟨d.py, e.py, rv.dp h1, rw.dp h2, h1, h2, k _ _ (Same.refl _) (.bl _)⟩
  · cases q
theorem od_ne (hu : X.A.units + 64 < cLine) : OpD X (compareOp .NotEq) gNe := by
  refine OpD.by (op_neD hu) fun g O σ env x d e z H v w Q S rv rw q k => ?_
  unfold gNe at q
  split at q
  · rename_i h
    cases q
    obtain ⟨h1, h2⟩ := Bool.and_eq_true_iff.mp h
    exact ⟨d.py, e.py, rv.dp h1, rw.dp h2, h1, h2, k _ _ (Same.refl _) (.bl _)⟩
  · cases q
/-- is None -/
def isNoneD : D → Bool
  | .none => true
  | _ => false
def gIsN : D → D → Option D := fun d e => match e with
  | .none => some (.bool (isNoneD d))
  | _ => none
def gNotN : D → D → Option D := fun d e => match e with
  | .none => some (.bool (!isNoneD d))
  | _ => none
theorem isNone_ok {K : PySem.W.Frag} {g : FG} {O : Addr → Prop} {H : Hp} {v : V} {d : D} (r : RpB K g O H v d) : decide (v = .non) = isNoneD d := by
  rcases r with r | ⟨a, w, rfl, rfl, ha, hr, z⟩
  · cases r <;> first | rfl | simp [isNoneD]
  · cases w <;> simp [isNoneD, OwD.d]
theorem od_isN : OpD X (compareOp .Is) gIsN := by
  refine OpD.by op_isN fun g O σ env x d e z H v w Q S rv rw q k => ?_
  unfold gIsN at q
  split at q
  · cases q
    refine ⟨rw.non, ?_⟩
    rw [isNone_ok rv]
    exact k _ _ (Same.refl _) (.bl _)
  · cases q
theorem od_notN : OpD X (compareOp .IsNot) gNotN := by
  refine OpD.by op_notN fun g O σ env x d e z H v w Q S rv rw q k => ?_
  unfold gNotN at q
  split at q
  · cases q
    refine ⟨rw.non, ?_⟩
    rw [isNone_ok rv]
    exact k _ _ (Same.refl _) (.bl _)
  · cases q
theorem any_py (d : D) : ∀ ds : List D, ((pyAll ds).any fun z => PyData.eqv z d.py) = ds.any fun z => eqD z d
  | [] => by simp only [pyAll, List.any_nil]
  | x :: xs => by simp only [pyAll, List.any_cons, any_py d xs, eqD]
/-- x in list -/
def gIn : D → D → Option D := fun d e => match e with
  | .list ds => if shapedD d && shapedD (.list ds) then some (.bool (ds.any fun z => eqD z d)) else none
  | _ => none
def gNotIn : D → D → Option D := fun d e => match e with
  | .list ds => if shapedD d && shapedD (.list ds) then some (.bool (!ds.any fun z => eqD z d)) else none
  | _ => none
theorem od_in (hu : X.A.units + 65 < cLine) : OpD X (compareOp .In) gIn := by
  refine OpD.by (op_inD hu) fun g O σ env x d e z H v w Q S rv rw q k => ?_
  unfold gIn at q
  split at q
  · rename_i ds
    split at q
    · rename_i h
      cases q
      obtain ⟨h1, h2⟩ := Bool.and_eq_true_iff.mp h
      have h3 := rw.dp h2
      simp only [shapedD, D.py] at h1 h2 h3
      refine ⟨d.py, pyAll ds, rv.dp h1, h3, h1, h2, ?_⟩
      rw [any_py]
      exact k _ _ (Same.refl _) (.bl _)
    · cases q
  · cases q
theorem od_notIn (hu : X.A.units + 65 < cLine) : OpD X (compareOp .NotIn) gNotIn := by
  refine OpD.by (op_notInD hu) fun g O σ env x d e z H v w Q S rv rw q k => ?_
  unfold gNotIn at q
  split at q
  · rename_i ds
    split at q
    · rename_i h
      cases q
      obtain ⟨h1, h2⟩ := Bool.and_eq_true_iff.mp h
      have h3 := rw.dp h2
      simp only [shapedD, D.py] at h1 h2 h3
      refine ⟨d.py, pyAll ds, rv.dp h1, h3, h1, h2, ?_⟩
      rw [any_py]
      exact k _ _ (Same.refl _) (.bl _)
    · cases q
  · cases q
end
end RT

namespace RT
open PySem PySem.Spec PyProof.Rows L2
section
variable {X : Cx} {a b c e : Expr} {es : List Expr} {fa fb fc f : FE} {pos : Pos}

/-! ### chains, and, or, not, if -/
def fChain (g1 g2 : D → D → Option D) (fa fb fc : FE) : FE := fun env x => match fa env x with
  | some (d, x1) => match fb env x1 with
    | some (e, x2) => match g1 d e with
      | some (.bool true) => match fc env x2 with
        | some (h, x3) => match g2 e h with
          | some (.bool r) => some (.bool r, x3)
          | _ => none
        | none => none
      | some (.bool false) => some (.bool false, x2)
      | _ => none
    | none => none
  | none => none
theorem se_chain {op op' : CmpOp} {g1 g2 : D → D → Option D} (ho : OpD X (compareOp op) g1) (ho' : OpD X (compareOp op') g2) (ha : SB X a fa) (hb : SB X b fb) (hc : SB X c fc)
    (hm : lastMarks [op, op'] [b, c] = false := by with_unfolding_all rfl) : SE X (.Compare a [op, op'] [b, c] pos) (fChain g1 g2 fa fb fc) := by
  refine ⟨PEw (pe_chain ho ho' ha.out hb.out hc.out hm) fun σ H Q h => ?_⟩
  obtain ⟨g, O, env, x, d, x', S, e, k⟩ := h
  unfold fChain at e
  split at e
  · rename_i da x1 e1
    split at e
    · rename_i db x2 e2
      split at e
      · rename_i e3
        split at e
        · rename_i dc x3 e4
          split at e
          · rename_i r e5
            cases e
            refine two S e1 e2 fun v w H' S' l rv rw => ⟨g, O, σ, env, x2, da, db, _, S', rv, rw, e3, fun u H2 sm q => ?_⟩
            cases q
            refine ⟨true, rfl, ?_⟩
            refine iteT ?_
            refine ⟨g, O, env, x2, dc, x', S'.same sm, e4, fun y H3 S3 l3 r3 => ⟨g, O, σ, env, x', db, dc, _, S3, RpB.step (S'.same sm) l3 (RpB.step S' (.of sm) rw), r3, e5, fun u H4 sm4 q => k u H4 (S3.same sm4) (((l.trans (.of sm)).trans l3).trans (.of sm4)) q⟩⟩
          · cases e
        · cases e
      · rename_i e3
        cases e
        refine two S e1 e2 fun v w H' S' l rv rw => ⟨g, O, σ, env, x', da, db, _, S', rv, rw, e3, fun u H2 sm q => ?_⟩
        cases q
        refine ⟨false, rfl, ?_⟩
        refine iteF ?_
        exact k _ _ (S'.same sm) (l.trans (.of sm)) (.bl false)
      · cases e
    · cases e
  · cases e
theorem st_chain {op op' : CmpOp} {g1 g2 : D → D → Option D} (ho : OpD X (compareOp op) g1) (ho' : OpD X (compareOp op') g2) (ha : SB X a fa) (hb : SB X b fb) (hc : SB X c fc)
    (hm : lastMarks [op, op'] [b, c] = false := by with_unfolding_all rfl) : ST X (.Compare a [op, op'] [b, c] pos) (fTst (fChain g1 g2 fa fb fc)) := by
  refine ⟨PTw (pt_chain ho ho' ha.out hb.out hc.out hm) fun σ H Q h => ?_⟩
  obtain ⟨g, O, env, x, d, x', S, e, k⟩ := h
  have e := fTst_some e
  unfold fChain at e
  split at e
  · rename_i da x1 e1
    split at e
    · rename_i db x2 e2
      split at e
      · rename_i e3
        split at e
        · rename_i dc x3 e4
          split at e
          · rename_i r e5
            cases e
            refine two S e1 e2 fun v w H' S' l rv rw => ⟨g, O, σ, env, x2, da, db, _, S', rv, rw, e3, fun u H2 sm q => ?_⟩
            cases q
            refine ⟨true, rfl, ?_⟩
            refine iteT ?_
            refine ⟨g, O, env, x2, dc, x', S'.same sm, e4, fun y H3 S3 l3 r3 => ⟨g, O, σ, env, x', db, dc, _, S3, RpB.step (S'.same sm) l3 (RpB.step S' (.of sm) rw), r3, e5, fun u H4 sm4 q => ?_⟩⟩
            cases q
            exact ⟨_, rfl, k H4 (S3.same sm4) (((l.trans (.of sm)).trans l3).trans (.of sm4))⟩
          · cases e
        · cases e
      · rename_i e3
        cases e
        refine two S e1 e2 fun v w H' S' l rv rw => ⟨g, O, σ, env, x', da, db, _, S', rv, rw, e3, fun u H2 sm q => ?_⟩
        cases q
        refine ⟨false, rfl, ?_⟩
        refine iteF ?_
        exact ⟨_, rfl, k _ (S'.same sm) (l.trans (.of sm))⟩
      · cases e
    · cases e
  · cases e
def fAnd (fa fb : FE) : FE := fun env x => match fa env x with
  | some (.bool true, x1) => fb env x1
  | some (.bool false, x1) => some (.bool false, x1)
  | _ => none
def fOr (fa fb : FE) : FE := fun env x => match fa env x with
  | some (.bool true, x1) => some (.bool true, x1)
  | some (.bool false, x1) => fb env x1
  | _ => none
theorem se_one {op : BoolOp} (h : SE X a fa) : SE X (.BoolOp op [a] pos) fa := ⟨pe_one h.out⟩
theorem se_and {rest : List Expr} (ha : SE X a fa) (hb : SE X (.BoolOp .And (b :: rest) pos) fb) : SE X (.BoolOp .And (a :: b :: rest) pos) (fAnd fa fb) := by
  refine ⟨PEw (pe_and ha.out hb.out) fun σ H Q h => ?_⟩
  obtain ⟨g, O, env, x, d, x', S, e, k⟩ := h
  unfold fAnd at e
  split at e
  · rename_i x1 e1
    refine ⟨g, O, env, x, _, x1, S, e1, fun v H1 S1 l1 r1 => ?_⟩
    cases r1
    refine ⟨true, rfl, ?_⟩
    refine iteT ?_
    exact ⟨g, O, env, x1, d, x', S1, e, fun v H2 S2 l2 r2 => k v H2 S2 (l1.trans l2) r2⟩
  · rename_i x1 e1
    cases e
    refine ⟨g, O, env, x, _, x', S, e1, fun v H1 S1 l1 r1 => ?_⟩
    cases r1
    refine ⟨false, rfl, ?_⟩
    refine iteF ?_
    exact k _ _ S1 l1 (.bl false)
  · cases e
theorem se_or {rest : List Expr} (ha : SE X a fa) (hb : SE X (.BoolOp .Or (b :: rest) pos) fb) : SE X (.BoolOp .Or (a :: b :: rest) pos) (fOr fa fb) := by
  refine ⟨PEw (pe_or ha.out hb.out) fun σ H Q h => ?_⟩
  obtain ⟨g, O, env, x, d, x', S, e, k⟩ := h
  unfold fOr at e
  split at e
  · rename_i x1 e1
    cases e
    refine ⟨g, O, env, x, _, x', S, e1, fun v H1 S1 l1 r1 => ?_⟩
    cases r1
    refine ⟨true, rfl, ?_⟩
    refine iteT ?_
    exact k _ _ S1 l1 (.bl true)
  · rename_i x1 e1
    refine ⟨g, O, env, x, _, x1, S, e1, fun v H1 S1 l1 r1 => ?_⟩
    cases r1
    refine ⟨false, rfl, ?_⟩
    refine iteF ?_
    exact ⟨g, O, env, x1, d, x', S1, e, fun v H2 S2 l2 r2 => k v H2 S2 (l1.trans l2) r2⟩
  · cases e
def fNot (fa : FE) : FE := fun env x => match fa env x with
  | some (.bool b, x1) => some (.bool (!b), x1)
  | _ => none
theorem se_not (ha : SE X a fa) : SE X (.UnaryOp .Not a pos) (fNot fa) := by
  refine ⟨PEw (pe_not ha.out) fun σ H Q h => ?_⟩
  obtain ⟨g, O, env, x, d, x', S, e, k⟩ := h
  unfold fNot at e
  split at e
  · rename_i bb x1 e1
    cases e
    refine ⟨g, O, env, x, _, x', S, e1, fun v H1 S1 l1 r1 => ?_⟩
    cases r1
    exact ⟨bb, rfl, k _ _ S1 l1 (.bl _)⟩
  · cases e
def fNeg (fa : FE) : FE := fun env x => match fa env x with
  | some (.int i, x1) => some (.int (-i), x1)
  | _ => none
theorem se_neg (ha : SE X a fa) : SE X (.UnaryOp .USub a pos) (fNeg fa) := by
  refine ⟨PEw (pe_un un_neg ha.out) fun σ H Q h => ?_⟩
  obtain ⟨g, O, env, x, d, x', S, e, k⟩ := h
  unfold fNeg at e
  split at e
  · rename_i i x1 e1
    cases e
    refine ⟨g, O, env, x, _, x', S, e1, fun v H1 S1 l1 r1 => ?_⟩
    cases r1
    exact ⟨i, rfl, k _ _ S1 l1 (.int _)⟩
  · cases e

/-! ### tests -/
structure SW (X : Cx) (e : Expr) (f : FT) : Prop where
  out : PW X e (tT X.K f)
theorem PWw {t t' : TT} (h : PW X e t) (q : ∀ σ H Q, t' σ H Q → t σ H Q) : PW X e t' := ⟨fun wh pins s σ H Q I z => h.run wh pins s σ H Q I (q _ _ _ z)⟩
theorem st_w {f : FT} (h : SW X e f) : ST X e f := ⟨h.out.pt⟩
variable {ta tb tc : FT}
def tAndF (fa fb : FT) : FT := fun env x => match fa env x with
  | some (true, x1) => fb env x1
  | some (false, x1) => some (false, x1)
  | none => none
def tOrF (fa fb : FT) : FT := fun env x => match fa env x with
  | some (true, x1) => some (true, x1)
  | some (false, x1) => fb env x1
  | none => none
theorem sw_and1 (h : ST X a ta) : SW X (.BoolOp .And [a] pos) ta := ⟨pw_and1 h.out⟩
theorem sw_or1 (h : ST X a ta) : SW X (.BoolOp .Or [a] pos) ta := ⟨pw_or1 h.out⟩
theorem sw_and {rest : List Expr} (ha : ST X a ta) (hb : SW X (.BoolOp .And (b :: rest) pos) tb) : SW X (.BoolOp .And (a :: b :: rest) pos) (tAndF ta tb) := by
  refine ⟨PWw (pw_and ha.out hb.out) fun σ H Q h => ?_⟩
  obtain ⟨g, O, env, x, d, x', S, e, k⟩ := h
  unfold tAndF at e
  split at e
  · rename_i x1 e1
    refine ⟨g, O, env, x, _, x1, S, e1, fun H1 S1 l1 => ?_⟩
    refine iteT ?_
    exact ⟨g, O, env, x1, d, x', S1, e, fun H2 S2 l2 => k H2 S2 (l1.trans l2)⟩
  · rename_i x1 e1
    cases e
    refine ⟨g, O, env, x, _, x', S, e1, fun H1 S1 l1 => ?_⟩
    refine iteF ?_
    exact k _ S1 l1
  · cases e
theorem sw_or {rest : List Expr} (ha : ST X a ta) (hb : SW X (.BoolOp .Or (b :: rest) pos) tb) : SW X (.BoolOp .Or (a :: b :: rest) pos) (tOrF ta tb) := by
  refine ⟨PWw (pw_or ha.out hb.out) fun σ H Q h => ?_⟩
  obtain ⟨g, O, env, x, d, x', S, e, k⟩ := h
  unfold tOrF at e
  split at e
  · rename_i x1 e1
    cases e
    refine ⟨g, O, env, x, _, x', S, e1, fun H1 S1 l1 => ?_⟩
    refine iteT ?_
    exact k _ S1 l1
  · rename_i x1 e1
    refine ⟨g, O, env, x, _, x1, S, e1, fun H1 S1 l1 => ?_⟩
    refine iteF ?_
    exact ⟨g, O, env, x1, d, x', S1, e, fun H2 S2 l2 => k H2 S2 (l1.trans l2)⟩
  · cases e
def tNotF (fa : FT) : FT := fun env x => match fa env x with
  | some (b, x1) => some (!b, x1)
  | none => none
theorem st_not (ha : ST X a ta) : ST X (.UnaryOp .Not a pos) (tNotF ta) := by
  refine ⟨PTw (pt_not ha.out) fun σ H Q h => ?_⟩
  obtain ⟨g, O, env, x, d, x', S, e, k⟩ := h
  unfold tNotF at e
  split at e
  · rename_i bb x1 e1
    cases e
    exact ⟨g, O, env, x, _, x', S, e1, fun H1 S1 l1 => k H1 S1 l1⟩
  · cases e
/-- truth of a value -/
def truD : D → Option Bool
  | .none => some false
  | .bool b => some b
  | .int i => some (i != 0)
  | .list ds => some (!ds.isEmpty)
  | .tuple ds => some (!ds.isEmpty)
  | _ => none
def fTru (f : FE) : FT := fun env x => match f env x with
  | some (d, x1) => match truD d with
    | some b => some (b, x1)
    | none => none
  | none => none
theorem RpA.emp {K : PySem.W.Frag} {O : Addr → Prop} {H : Hp} {xs : List V} {ds : List D} (r : RpA K O H xs ds) : xs.isEmpty = ds.isEmpty := by cases r <;> rfl
theorem st_tru (ha : SB X a fa) (he : ∀ whole, isTrue a X.env whole = (do let v ← whole; standAt a.pos; holding [v] (truthy v)) := by intro _; rfl) : ST X a (fTru fa) := by
  refine ⟨PTw (pt_truth ha.out he) fun σ H Q h => ?_⟩
  obtain ⟨g, O, env, x, d, x', S, e, k⟩ := h
  unfold fTru at e
  split at e
  · rename_i dd x1 e1
    split at e
    · rename_i bb e2
      cases e
      refine ⟨g, O, env, x, _, x', S, e1, fun v H1 S1 l1 r1 => ⟨d, ?_, k H1 S1 l1⟩⟩
      unfold truD at e2
      split at e2
      · cases e2; rw [r1.non]; exact rfl
      · cases e2; rw [r1.bl]; exact rfl
      · cases e2; rw [r1.int]; exact rfl
      · cases e2
        obtain ⟨p, xs, rfl, q, r⟩ := r1.lst
        exact .inl ⟨xs, .of q, by rw [r.emp]⟩
      · cases e2
        have r := r1.tup
        obtain ⟨p, rfl⟩ := r.isRef
        obtain ⟨xs, q, r⟩ := r.seqT
        exact .inr (.inl ⟨xs, q, by rw [r.emp]⟩)
      · cases e2
    · cases e
  · cases e
def fIf (t : FT) (fa fb : FE) : FE := fun env x => match t env x with
  | some (true, x1) => fa env x1
  | some (false, x1) => fb env x1
  | none => none
theorem se_if {t : FT} (hc : ST X c t) (ha : SE X a fa) (hb : SE X b fb) : SE X (.IfExp c a b pos) (fIf t fa fb) := by
  refine ⟨PEw (pe_ifExp hc.out ha.out hb.out) fun σ H Q h => ?_⟩
  obtain ⟨g, O, env, x, d, x', S, e, k⟩ := h
  unfold fIf at e
  split at e
  · rename_i x1 e1
    refine ⟨g, O, env, x, _, x1, S, e1, fun H1 S1 l1 => ?_⟩
    refine iteT ?_
    exact ⟨g, O, env, x1, d, x', S1, e, fun v H2 S2 l2 r2 => k v H2 S2 (l1.trans l2) r2⟩
  · rename_i x1 e1
    refine ⟨g, O, env, x, _, x1, S, e1, fun H1 S1 l1 => ?_⟩
    refine iteF ?_
    exact ⟨g, O, env, x1, d, x', S1, e, fun v H2 S2 l2 r2 => k v H2 S2 (l1.trans l2) r2⟩
  · cases e

/-! ### subscripts, slices -/
def gIx : D → D → Option D
  | .list ds, .int i => atI ds i
  | .tuple ds, .int i => atI ds i
  | _, _ => none
theorem atI_rp {K : PySem.W.Frag} {O : Addr → Prop} {H : Hp} {xs : List V} {ds : List D} {i : Int} {d : D} (r : RpA K O H xs ds) (h : atI ds i = some d) : ∃ v, atI xs i = some v ∧ Rp K O H v d := by
  unfold atI at h ⊢
  rw [r.length]
  cases q : ixN ds.length i with
  | none => rw [q] at h; cases h
  | some j =>
    rw [q] at h
    exact r.get h
def rIxLT (K : PySem.W.Frag) : R2 := fun x y H Q => rIxL K x y H Q ∨ rIxT K x y H Q
theorem se_ix (ha : SB X a fa) (hb : SB X b fb) (hs : PlainIx b := by exact fun _ _ => rfl) : SE X (.Subscript a b pos) (fBin gIx fa fb) := by
  refine ⟨PEw (pe_ix (ix_list.or ix_tup) ha.out hb.out hs) fun σ H Q h => ?_⟩
  obtain ⟨g, O, env, x, d, x', S, e, k⟩ := h
  obtain ⟨da, x1, db, r, e1, e2, e3, rfl⟩ := fBin_some e
  refine two S e1 e2 fun v w H' S' l rv rw => ?_
  unfold gIx at e3
  split at e3
  · obtain ⟨p, xs, rfl, q, r⟩ := rv.lst
    obtain ⟨u, e4, r4⟩ := atI_rp r e3
    exact .inl ⟨p, xs, _, u, rfl, rw.int, .of q, e4, k _ _ S' l r4⟩
  · have r := rv.tup
    obtain ⟨p, rfl⟩ := r.isRef
    obtain ⟨xs, q, r⟩ := r.seqT
    obtain ⟨u, e4, r4⟩ := atI_rp r e3
    exact .inr ⟨p, xs, _, u, rfl, rw.int, q, e4, k _ _ S' l r4⟩
  · cases e3
abbrev FO := FEn → FRow → Option (Option Int × FRow)
def tO (K : PySem.W.Frag) (f : FO) : TO := fun σ H Q => ∃ g O env x d x', FSt K g O σ H env x ∧ f env x = some (d, x') ∧ ∀ H', FSt K g O σ H' env x' → Le g H H' → Q d H'
structure SO (X : Cx) (o : Option Expr) (f : FO) : Prop where
  out : PO X o (tO X.K f)
theorem POw {o : Option Expr} {t t' : TO} (h : PO X o t) (q : ∀ σ H Q, t' σ H Q → t σ H Q) : PO X o t' := ⟨fun pins s σ H Q I z => h.run pins s σ H Q I (q _ _ _ z)⟩
def oNone : FO := fun _ x => some (none, x)
def oSome (f : FE) : FO := fun env x => match f env x with
  | some (.int i, x1) => some (some i, x1)
  | _ => none
theorem so_none : SO X none oNone := by
  refine ⟨POw po_none fun σ H Q h => ?_⟩
  obtain ⟨g, O, env, x, d, x', S, e, k⟩ := h
  cases e
  exact k _ S (Le.refl _ _)
theorem so_some (ha : SE X a fa) : SO X (some a) (oSome fa) := by
  refine ⟨POw (po_some ha.out) fun σ H Q h => ?_⟩
  obtain ⟨g, O, env, x, d, x', S, e, k⟩ := h
  unfold oSome at e
  split at e
  · rename_i i x1 e1
    cases e
    refine ⟨g, O, env, x, _, x', S, e1, fun v H1 S1 l1 r1 => ?_⟩
    cases r1
    exact ⟨i, rfl, k _ S1 l1⟩
  · cases e
def cutL {α : Type} (xs : List α) (lo hi : Option Int) : List α := (xs.drop (HT.sIx xs.length 0 lo)).take (HT.sIx xs.length xs.length hi - HT.sIx xs.length 0 lo)
def gSl : D → Option Int → Option Int → Option D
  | .list ds, lo, hi => some (.list (cutL ds lo hi))
  | .tuple ds, lo, hi => some (.tuple (cutL ds lo hi))
  | _, _, _ => none
theorem cut_rp {K : PySem.W.Frag} {O : Addr → Prop} {H : Hp} {xs : List V} {ds : List D} {lo hi : Option Int} (r : RpA K O H xs ds) : RpA K O H (cutV xs lo hi) (cutL ds lo hi) := by
  unfold cutV cutL
  rw [r.length]
  exact (r.drop _).take _
def fSl (f : FE) (o p : FO) : FE := fun env x => match f env x with
  | some (d, x1) => match o env x1 with
    | some (lo, x2) => match p env x2 with
      | some (hi, x3) => match gSl d lo hi with
        | some r => some (r, x3)
        | none => none
      | none => none
    | none => none
  | none => none
theorem cut_all {α : Type} {xs : List α} {lo hi : Option Int} (h : HT.sIx xs.length 0 lo = 0 ∧ HT.sIx xs.length xs.length hi = xs.length) : cutL xs lo hi = xs := by
  unfold cutL
  rw [h.1, h.2]
  simp
theorem se_sl {lo hi : Option Expr} {fl fh : FO} {p2 : Pos} (ha : SB X a fa) (hl : SO X lo fl) (hh : SO X hi fh) : SE X (.Subscript a (.Slice lo hi none p2) pos) (fSl fa fl fh) := by
  refine ⟨PEw (pe_slice (sl_list.or sl_tupA) ha.out hl.out hh.out) fun σ H Q h => ?_⟩
  obtain ⟨g, O, env, x, d, x', S, e, k⟩ := h
  unfold fSl at e
  split at e
  · rename_i da x1 e1
    split at e
    · rename_i lo x2 e2
      split at e
      · rename_i hi x3 e3
        split at e
        · rename_i r e4
          cases e
          refine ⟨g, O, env, x, da, x1, S, e1, fun v H1 S1 l1 r1 => ⟨g, O, env, x1, lo, x2, S1, e2, fun H2 S2 l2 => ⟨g, O, env, x2, hi, x', S2, e3, fun H3 S3 l3 => ?_⟩⟩⟩
          have rv := RpB.step S2 l3 (RpB.step S1 l2 r1)
          unfold gSl at e4
          split at e4
          · rename_i ds
            cases e4
            obtain ⟨p, xs, rfl, q, r⟩ := rv.lst
            refine .inl ⟨p, xs, rfl, .of q, fun p hp => ?_⟩
            have sm := same_upd (o := .lst (cutV xs lo hi)) hp
            exact k _ _ (S3.same sm) (((l1.trans l2).trans l3).trans (.of sm)) (.lst (S3.notO hp) upd_same ((cut_rp r).move (.of sm) .refl))
          · rename_i ds
            cases e4
            have r := rv.tup
            obtain ⟨p, rfl⟩ := r.isRef
            obtain ⟨xs, q, r2⟩ := r.seqT
            refine .inr ⟨p, xs, rfl, q, fun hh => ?_, fun _ p hp => ?_⟩
            · rw [r2.length] at hh
              rw [cut_all hh] at k
              exact k _ _ S3 ((l1.trans l2).trans l3) r
            · have sm := same_upd (o := .tup (cutV xs lo hi)) hp
              exact k _ _ (S3.same sm) (((l1.trans l2).trans l3).trans (.of sm)) (.tup (S3.notO hp) upd_same ((cut_rp r2).move (.of sm) .refl))
          · cases e4
        · cases e
      · cases e
    · cases e
  · cases e
end
end RT

namespace RT
open PySem PySem.Spec PyProof.Rows L2
/-! ### stores -/
section
variable {K : PySem.W.Frag} {g : FG} {O O' : Addr → Prop} {σ : L2.St} {H H' : Hp} {env : FEn} {x x' : FRow}
theorem set_at {α : Type} {l : List α} {i j : Nat} {a b : α} (h : (l.set i a)[j]? = some b) : (i = j ∧ b = a) ∨ (i ≠ j ∧ l[j]? = some b) := by
  by_cases e : i = j
  · subst e
    by_cases hl : i < l.length
    · rw [List.getElem?_set_self hl] at h
      exact .inl ⟨rfl, (Option.some.inj h).symm⟩
    · rw [List.getElem?_eq_none (by simpa using hl)] at h
      cases h
  · rw [List.getElem?_set_ne e] at h
    exact .inr ⟨e, h⟩
theorem OwAt.mut {a : Addr} {d : OwD} (h : OwAt K O H a d) : Mut (H a) := by
  cases d <;> (obtain ⟨xs, e, _⟩ := h; rw [e]; exact True.intro)
theorem OwAt.some {a : Addr} {d : OwD} (h : OwAt K O H a d) : ∃ o, H a = some o := by
  have z := h.mut
  cases q : H a with
  | none => rw [q] at z; exact z.elim
  | some o => exact ⟨o, rfl⟩
/-- a slot gets a value -/
theorem FSt.setv (S : FSt K g O σ H env x) {v : V} {e : FSl} (i : Nat) (r : SlOk K g O H (some v) e) (n : ∀ d, e = .ow d → ∃ p, v = .ref p ∧ ∀ (j : Nat) d' b, env[j]? = some (.ow d') → σ[j]? = some (some (.ref b)) → b ≠ p) : FSt K g O (σ.set i (some v)) H (env.set i e) x where
  sub := S.sub
  new := S.new
  dom := S.dom
  le := S.le
  row := S.row
  len := by rw [List.length_set, List.length_set]; exact S.len
  sl := fun j s e' h1 h2 => by
    rcases set_at h1 with ⟨e1, e2⟩ | ⟨e1, e2⟩
    · rcases set_at h2 with ⟨e3, e4⟩ | ⟨e3, e4⟩
      · subst e2; subst e4; exact r
      · exact absurd e1 e3
    · rcases set_at h2 with ⟨e3, e4⟩ | ⟨e3, e4⟩
      · exact absurd e3 e1
      · exact S.sl j s e' e2 e4
  dis := fun j k d d' a b ne h1 h2 h3 h4 => by
    rcases set_at h1 with ⟨e1, e2⟩ | ⟨e1, e2⟩
    · rcases set_at h3 with ⟨e3, e4⟩ | ⟨e3, e4⟩
      · rcases set_at h2 with ⟨e5, e6⟩ | ⟨e5, e6⟩
        · exact absurd (e1.symm.trans e5) ne
        · rcases set_at h4 with ⟨e7, e8⟩ | ⟨e7, e8⟩
          · exact absurd e7 e5
          · obtain ⟨p, e9, q⟩ := n d e2.symm
            have e4' : V.ref a = v := Option.some.inj e4
            rw [e9] at e4'
            cases e4'
            exact fun z => q k d' b e6 e8 z.symm
      · exact absurd e1 e3
    · rcases set_at h3 with ⟨e3, e4⟩ | ⟨e3, e4⟩
      · exact absurd e3 e1
      · rcases set_at h2 with ⟨e5, e6⟩ | ⟨e5, e6⟩
        · rcases set_at h4 with ⟨e7, e8⟩ | ⟨e7, e8⟩
          · obtain ⟨p, e9, q⟩ := n d' e6.symm
            have e8' : V.ref b = v := Option.some.inj e8
            rw [e9] at e8'
            cases e8'
            exact q j d a e2 e4
          · exact absurd e5 e7
        · rcases set_at h4 with ⟨e7, e8⟩ | ⟨e7, e8⟩
          · exact absurd e7 e5
          · exact S.dis j k d d' a b ne e2 e6 e4 e8
  gh := S.gh
/-- an owned thing changes -/
theorem FSt.put (S : FSt K g O σ H env x) {i : Nat} {a : Addr} {d d' : OwD} {o : HO} (h1 : env[i]? = some (.ow d)) (h2 : σ[i]? = some (some (.ref a))) (mu : Mut (some o)) (w : OwAt K O (upd H a o) a d') :
    FSt K g O σ (upd H a o) (env.set i (.ow d')) x := by
  have q := S.sl i _ _ h2 h1
  obtain ⟨oa, noa, nr⟩ : O a ∧ ¬ g.O0 a ∧ g.R ≠ some a := by
    cases q with
    | ow p q r s => exact ⟨p, q, r⟩
  have n0 : g.H0 a = none := by
    rcases S.new a oa with z | z
    · exact absurd z noa
    · exact z
  have kp : Keep O H (upd H a o) := fun b u n e => by
    rw [upd_ne (show b ≠ a from fun z => n (z ▸ oa))]
    exact e
  have ma := S.dom a oa
  refine ⟨S.sub, S.new, fun b hb => ?_, fun b u hR e => ?_, fun r e => ?_, by rw [List.length_set]; exact S.len, fun j s e' e1 e2 => ?_, fun j k e e' b c ne e1 e2 e3 e4 => ?_, fun p hp => (S.gh p hp).move kp .refl⟩
  · by_cases z : b = a
    · subst z; rw [upd_same]; exact mu
    · rw [upd_ne z]; exact S.dom b hb
  · have z : b ≠ a := fun z => by rw [z, n0] at e; cases e
    rw [upd_ne z]
    exact S.le b u hR e
  · obtain ⟨q1, q2, a0, q3, q4⟩ := S.row r e
    refine ⟨q1, q2, a0, ?_, ?_⟩
    · rw [upd_ne (show r ≠ a from fun z => nr (z ▸ e))]; exact q3
    · rcases q4 with ⟨u, q4⟩ | q4
      · refine .inl ⟨u, ?_⟩
        rw [upd_ne (show a0 ≠ a from fun z => by rw [← z, q4] at ma; exact ma)]
        exact q4
      · exact .inr q4
  · rcases set_at e2 with ⟨z1, z2⟩ | ⟨z1, z2⟩
    · subst z1
      subst z2
      rw [h2] at e1
      cases e1
      exact .ow oa noa nr w
    · cases S.sl j s e' e1 z2 with
      | no => exact .no _
      | va r => exact .va (r.move kp .refl)
      | @ow b d2 p q r t => exact .ow p q r (t.move (fun u eu => by rw [upd_ne (S.dis j i _ _ _ _ (Ne.symm z1) z2 h1 e1 h2)]; exact eu) kp .refl)
      | rw e => exact .rw e
  · have at1 : ∀ {j : Nat} {d2 : OwD}, (env.set i (.ow d'))[j]? = some (.ow d2) → ∃ d3, env[j]? = some (.ow d3) := fun {j d2} z => by
      rcases set_at z with ⟨z1, z2⟩ | ⟨z1, z2⟩
      · subst z1; exact ⟨_, h1⟩
      · exact ⟨_, z2⟩
    obtain ⟨d3, e1⟩ := at1 e1
    obtain ⟨d4, e2⟩ := at1 e2
    exact S.dis j k _ _ b c ne e1 e2 e3 e4
/-- an owned thing is given up: it does not change any more -/
theorem FSt.freeze (S : FSt K g O σ H env x) {i : Nat} {a : Addr} {d : OwD} (h1 : env[i]? = some (.ow d)) (h2 : σ[i]? = some (some (.ref a))) :
    FSt K g (fun b => O b ∧ b ≠ a) σ H (env.set i (.va d.d)) x := by
  have q := S.sl i _ _ h2 h1
  obtain ⟨oa, noa, nr, w⟩ : O a ∧ ¬ g.O0 a ∧ g.R ≠ some a ∧ OwAt K O H a d := by
    cases q with
    | ow p q r s => exact ⟨p, q, r, s⟩
  have wd : Wid O (fun b => O b ∧ b ≠ a) H := fun b z => .inl z.1
  have kp : Keep O H H := fun _ _ _ e => e
  refine ⟨fun b z => ⟨S.sub b z, fun e => noa (e ▸ z)⟩, fun b z => S.new b z.1, fun b z => S.dom b z.1, S.le, S.row, by rw [List.length_set]; exact S.len, fun j s e' e1 e2 => ?_, fun j k e e' b c ne e1 e2 e3 e4 => ?_, fun p hp => (S.gh p hp).move kp wd⟩
  · rcases set_at e2 with ⟨z1, z2⟩ | ⟨z1, z2⟩
    · subst z1
      subst z2
      rw [h2] at e1
      cases e1
      refine .va ?_
      cases d with
      | lst ds => obtain ⟨xs, e, r⟩ := w; exact .lst (fun z => z.2 rfl) e (r.move kp wd)
      | dk ds => obtain ⟨xs, e, r⟩ := w; exact .dK (fun z => z.2 rfl) e (r.move kp wd)
      | dt ds => obtain ⟨xs, e, r⟩ := w; exact .dT (fun z => z.2 rfl) e (r.move kp wd)
    · cases S.sl j s e' e1 z2 with
      | no => exact .no _
      | va r => exact .va (r.move kp wd)
      | @ow b d2 p q r t => exact .ow ⟨p, S.dis j i _ _ _ _ (Ne.symm z1) z2 h1 e1 h2⟩ q r (t.move (fun u eu => eu) kp wd)
      | rw e => exact .rw e
  · rcases set_at e1 with ⟨z1, z2⟩ | ⟨z1, z2⟩
    · cases z2
    · rcases set_at e2 with ⟨z3, z4⟩ | ⟨z3, z4⟩
      · cases z4
      · exact S.dis j k _ _ b c ne z2 z4 e3 e4
/-- a new thing, owned -/
def oAdd (O : Addr → Prop) (p : Addr) : Addr → Prop := fun a => O a ∨ a = p
theorem wid_add {p : Addr} (h : H p = none) : Wid O (oAdd O p) H := fun a z => z.elim .inl fun e => .inr (e ▸ h)
theorem FSt.own (S : FSt K g O σ H env x) {p : Addr} {o : HO} (hp : H p = none) (mu : Mut (some o)) : FSt K g (oAdd O p) σ (upd H p o) env x := by
  have sm := same_upd (o := o) hp
  have S1 := S.same sm
  have h0 : g.H0 p = none := by
    cases q : g.H0 p with
    | none => rfl
    | some u =>
      by_cases hR : g.R = some p
      · have z := S.dom p (S.sub p (S.row p hR).1)
        rw [hp] at z
        exact z.elim
      · rw [S.le p u hR q] at hp; cases hp
  have wd : Wid O (oAdd O p) H := wid_add hp
  refine ⟨fun a h => .inl (S.sub a h), fun a h => ?_, fun a h => ?_, S1.le, S1.row, S.len, fun j s e' e1 e2 => ?_, S.dis, fun q hq => (S.gh q hq).move (.of sm) wd⟩
  · rcases h with h | rfl
    · exact S.new a h
    · exact .inr h0
  · rcases h with h | rfl
    · exact S1.dom a h
    · rw [upd_same]; exact mu
  · cases S.sl j s e' e1 e2 with
    | no => exact .no _
    | va r => exact .va (r.move (.of sm) wd)
    | ow p q r t => exact .ow (.inl p) q r (t.move (fun u eu => sm _ _ eu) (.of sm) wd)
    | rw e => exact .rw e
theorem FSt.newp (S : FSt K g O σ H env x) {p : Addr} (hp : H p = none) : ¬ g.O0 p ∧ g.R ≠ some p := by
  refine ⟨fun z => S.notO hp (S.sub p z), fun z => S.notO hp (S.sub p (S.row p z).1)⟩
end

/-! ### what is stored in a name: a value, or a new owned thing -/
abbrev FX := FEn → FRow → Option (FSl × FRow)
def tX (K : PySem.W.Frag) (f : FX) : TE := fun σ H Q => ∃ g O env x sl x', FSt K g O σ H env x ∧ f env x = some (sl, x') ∧
  ∀ O' v H', FSt K g O' σ H' env x' → Le g H H' → Wid O O' H → (∀ a, O a → O' a) → SlOk K g O' H' (some v) sl → (∀ d, sl = .ow d → ∃ p, v = .ref p ∧ H p = none) → Q v H'
structure SX (X : Cx) (e : Expr) (f : FX) : Prop where
  out : PE X e (tX X.K f)
section
variable {X : Cx} {a b c e : Expr} {es : List Expr} {fa fb fc f : FE} {pos : Pos}
def xVal (f : FE) : FX := fun env x => match f env x with
  | some (d, x1) => some (.va d, x1)
  | none => none
theorem sx_of (h : SE X e f) : SX X e (xVal f) := by
  refine ⟨PEw h.out fun σ H Q h => ?_⟩
  obtain ⟨g, O, env, x, sl, x', S, e, k⟩ := h
  unfold xVal at e
  split at e
  · rename_i d x1 e1
    cases e
    exact ⟨g, O, env, x, d, x', S, e1, fun v H1 S1 l1 r1 => k O v H1 S1 l1 .refl (fun _ h => h) (.va r1) fun d z => by cases z⟩
  · cases e
def xLst (t : FA) : FX := fun env x => match t env x with
  | some (ds, x1) => if ds.length ≤ maxLen then some (.ow (.lst ds), x1) else none
  | none => none
theorem Le.gone {g : FG} {H H' : Hp} {p : Addr} {K : PySem.W.Frag} {O' : Addr → Prop} {σ' : L2.St} {env' : FEn} {x' : FRow} (l : Le g H H') (h : H' p = none) (S' : FSt K g O' σ' H' env' x') : H p = none := by
  cases q : H p with
  | none => rfl
  | some u =>
    by_cases hR : g.R = some p
    · exact absurd (S'.sub p (S'.row p hR).1) (S'.notO h)
    · rw [l p u hR q] at h; cases h
theorem sx_lst {t : FA} (h : SA X es t) : SX X (.List es pos) (xLst t) := by
  refine ⟨PEw (pe_lst h.out) fun σ H Q h => ?_⟩
  obtain ⟨g, O, env, x, d, x', S, e, k⟩ := h
  unfold xLst at e
  split at e
  · rename_i ds x1 e1
    split at e
    · rename_i hl
      cases e
      refine ⟨g, O, env, x, ds, x', S, e1, fun v H1 S1 l1 r1 => ⟨by rw [r1.length]; exact maxLen_ok hl, fun p hp => ?_⟩⟩
      have sm := same_upd (o := .lst v) hp
      have n1 := S1.newp hp
      have S2 := S1.own (o := .lst v) hp True.intro
      have hp0 := Le.gone l1 hp S1
      refine k _ _ _ S2 (l1.trans (.of sm)) (fun a z => z.elim .inl fun e => .inr (e ▸ hp0)) (fun a z => .inl z) (.ow (.inr rfl) n1.1 n1.2 ⟨v, upd_same, r1.move (.of sm) (wid_add hp)⟩) fun d z => ⟨p, rfl, hp0⟩
    · cases e
  · cases e
def xNew (d : OwD) : FX := fun _ x => some (.ow d, x)
theorem sx_dK : SX X (.Dict [] [] pos) (xNew (.dk [])) := by
  refine ⟨PEw pe_dnewK fun σ H Q h => ?_⟩
  obtain ⟨g, O, env, x, d, x', S, e, k⟩ := h
  cases e
  intro p hp
  have n1 := S.newp hp
  exact k _ _ _ (S.own (o := .dK []) hp True.intro) (.of (same_upd hp)) (wid_add hp) (fun a z => .inl z) (.ow (.inr rfl) n1.1 n1.2 ⟨[], upd_same, .nil⟩) fun d z => ⟨p, rfl, hp⟩
theorem sx_dT : SX X (.Dict [] [] pos) (xNew (.dt [])) := by
  refine ⟨PEw pe_dnewT fun σ H Q h => ?_⟩
  obtain ⟨g, O, env, x, d, x', S, e, k⟩ := h
  cases e
  intro p hp
  have n1 := S.newp hp
  exact k _ _ _ (S.own (o := .dT []) hp True.intro) (.of (same_upd hp)) (wid_add hp) (fun a z => .inl z) (.ow (.inr rfl) n1.1 n1.2 ⟨[], upd_same, .nil⟩) fun d z => ⟨p, rfl, hp⟩
/-- {k: v} -/
def dKey : D → Option L2.Key
  | .int i => some (.inl i)
  | .str s => some (.inr s)
  | _ => none
theorem dKey_ok {d : D} {k : L2.Key} (h : dKey d = some k) : d = keyD k := by
  cases d <;> simp [dKey] at h <;> subst h <;> rfl
theorem dKey_rp {K : PySem.W.Frag} {O : Addr → Prop} {H : Hp} {v : V} {d : D} {k : L2.Key} (h : dKey d = some k) (r : Rp K O H v d) : v = kV k := by
  cases d <;> simp [dKey] at h <;> subst h <;> cases r <;> rfl
def xDict1 (fk fv : FE) : FX := fun env x => match fk env x with
  | some (k, x1) => match dKey k with
    | some _ => match fv env x1 with
      | some (v, x2) => some (.ow (.dk [(k, v)]), x2)
      | none => none
    | none => none
  | none => none
theorem sx_d1 {fk fv : FE} (hk : SE X a fk) (hv : SE X b fv) : SX X (.Dict [some a] [b] pos) (xDict1 fk fv) := by
  refine ⟨PEw (pe_disp (pps_cons hk.out hv.out pps_nil) (by rfl) (by rfl) (fun z => by cases z) (by show 1 ≤ 15; decide)) fun σ H Q h => ?_⟩
  obtain ⟨g, O, env, x, d, x', S, e, k⟩ := h
  unfold xDict1 at e
  split at e
  · rename_i dk x1 e1
    split at e
    · rename_i kk e2
      split at e
      · rename_i dv x2 e3
        cases e
        intro p hp
        have n1 := S.newp hp
        have S0 := S.own (o := .dK []) hp True.intro
        refine ⟨g, oAdd O p, env, x, dk, x1, S0, e1, fun v1 H1 S1 l1 r1 => ⟨g, oAdd O p, env, x1, dv, x', S1, e3, fun v2 H2 S2 l2 r2 => ?_⟩⟩
        have hb : (upd H p (.dK [])) p = some (.dK []) := upd_same
        have h2 : H2 p = some (.dK []) := l2 p _ n1.2 (l1 p _ n1.2 hb)
        refine ⟨h2, [(kk, v2)], by rw [dKey_rp e2 r1]; rfl, by simp, ?_⟩
        have S3 : FSt X.K g (oAdd O p) σ (upd H2 p (.dK (mergeK [] [(kk, v2)]))) env x' := by
          refine ⟨S2.sub, S2.new, fun a ha => ?_, fun c u hR e => ?_, fun r e => ?_, S2.len, fun j s e' e1 e2 => ?_, S2.dis, fun q hq => (S2.gh q hq).move ?_ .refl⟩
          · by_cases z : a = p
            · subst z; rw [upd_same]; exact True.intro
            · rw [upd_ne z]; exact S2.dom a ha
          · have z : c ≠ p := fun z => by
              have := S.le c u hR e
              rw [z, hp] at this; cases this
            rw [upd_ne z]; exact S2.le c u hR e
          · obtain ⟨q1, q2, a0, q3, q4⟩ := S2.row r e
            refine ⟨q1, q2, a0, ?_, ?_⟩
            · rw [upd_ne (show r ≠ p from fun z => n1.2 (z ▸ e))]; exact q3
            · rcases q4 with ⟨u, q4⟩ | q4
              · refine .inl ⟨u, ?_⟩
                rw [upd_ne (show a0 ≠ p from fun z => by rw [z, h2] at q4; cases q4)]
                exact q4
              · exact .inr q4
          · have kp : Keep (oAdd O p) H2 (upd H2 p (.dK (mergeK [] [(kk, v2)]))) := fun b u n e => by
              rw [upd_ne (show b ≠ p from fun z => n (z ▸ .inr rfl))]; exact e
            cases S2.sl j s e' e1 e2 with
            | no => exact .no _
            | va r => exact .va (r.move kp .refl)
            | @ow b d2 q1 q2 q3 t =>
              have nb : b ≠ p := fun z => by
                subst z
                have t0 := S.sl j _ _ e1 e2
                cases t0 with
                | ow _ _ _ t0 =>
                  obtain ⟨u, q⟩ := t0.some
                  rw [hp] at q; cases q
              exact .ow q1 q2 q3 (t.move (fun u eu => by rw [upd_ne nb]; exact eu) kp .refl)
            | rw e => exact .rw e
          · exact fun b u n e => by
              rw [upd_ne (show b ≠ p from fun z => n (z ▸ .inr rfl))]; exact e
        refine k _ _ _ S3 ?_ (fun a z => z.elim .inl fun e => .inr (e ▸ hp)) (fun a z => .inl z) (.ow (.inr rfl) n1.1 n1.2 ⟨_, upd_same, ?_⟩) fun d z => ⟨p, rfl, hp⟩
        · intro c u hR e
          have z : c ≠ p := fun z => by rw [z, hp] at e; cases e
          rw [upd_ne z]
          exact l2 c u hR (l1 c u hR (by rw [upd_ne z]; exact e))
        · show RpK X.K (oAdd O p) _ [(kk, v2)] _
          have e4 := dKey_ok e2
          subst e4
          refine .cons (r2.move ?_ .refl) .nil
          exact fun b u n e => by
              rw [upd_ne (show b ≠ p from fun z => n (z ▸ .inr rfl))]; exact e
      · cases e
    · cases e
  · cases e

/-! ### statements -/
def sSet (i : Nat) (f : FX) : FS := fun env x => match f env x with
  | some (sl, x1) => some (.nx (env.set i sl), x1)
  | none => none
theorem own_ne {K : PySem.W.Frag} {g : FG} {O : Addr → Prop} {σ : L2.St} {H : Hp} {env : FEn} {x : FRow} (S : FSt K g O σ H env x) {p : Addr} (hp : H p = none) {j : Nat} {d : OwD} {b : Addr} (h1 : env[j]? = some (.ow d)) (h2 : σ[j]? = some (some (.ref b))) : b ≠ p := fun z => by
  have q := S.sl j _ _ h2 h1
  cases q with
  | ow _ _ _ t =>
    obtain ⟨u, q⟩ := t.some
    rw [z, hp] at q; cases q
theorem ss_set {i : Nat} {n : Str} {f : FX} {pos' : Pos} (hN : X.N.Nodup) (hi : X.N[i]? = some n) (hx : Loc X.env.scope n) (he : SX X e f) (hs : swapsWith e (some (.Name n pos')) pos.line X.env = pure false := by rfl)
    (hf : X.fn n = true ∨ X.env.scope.names.lookup n = some .local := by first | exact .inl rfl | exact .inr rfl | assumption) : SS X (.Assign [.Name n pos'] e pos) (sSet i f) := by
  refine ⟨PSw (ps_set hN hi hx he.out hs hf) fun Dn σ H h => ?_⟩
  obtain ⟨g, O, env, x, r, x', S, e, k⟩ := h
  unfold sSet at e
  split at e
  · rename_i sl x1 e1
    cases e
    exact ⟨g, O, env, x, sl, x', S, e1, fun O' v H' S' l w sub r nw => k O' _ H' (S'.setv i r fun d z => by
      obtain ⟨p, e2, hp⟩ := nw d z
      exact ⟨p, e2, fun j d' b h1 h2 => own_ne S hp h1 h2⟩)⟩
  · cases e
theorem sl_move {K : PySem.W.Frag} {g : FG} {O O' : Addr → Prop} {σ : L2.St} {H H' : Hp} {env : FEn} {x : FRow} {v : V} {sl : FSl} (S : FSt K g O σ H env x) (l : Le g H H') (w : Wid O O' H) (sub : ∀ a, O a → O' a) (r : SlOk K g O H (some v) sl) : SlOk K g O' H' (some v) sl := by
  cases r with
  | no => exact .no _
  | va r => exact .va (r.move (S.keep l) w)
  | ow p q r t => exact .ow (sub _ p) q r (t.move (fun o e => l _ o r e) (S.keep l) w)
  | rw e => exact .rw e
def sPar (i j : Nat) (f h : FX) : FS := fun env x => match f env x with
  | some (s1, x1) => match h env x1 with
    | some (s2, x2) => some (.nx ((env.set i s1).set j s2), x2)
    | none => none
  | none => none
theorem ss_par {i j : Nat} {n m : Str} {f h : FX} {px py pt : Pos} {kt k2 pt2} (hc : X.calm = true) (hN : X.N.Nodup) (hi : X.N[i]? = some n) (hj : X.N[j]? = some m) (hij : i ≠ j)
    (hx : X.env.scope.names.lookup n = some .local) (hy : X.env.scope.names.lookup m = some .local) (ha : SX X a f) (hb : SX X b h)
    (hw : swappedStores [.Tuple [.Name n px, .Name m py] kt pt] (.Tuple [a, b] k2 pt2) X.env = pure (some [n, m]))
    (hs : swapsWithSole [.Tuple [.Name n px, .Name m py] kt pt] (.Tuple [a, b] k2 pt2) pos.line X.env = pure false := by rfl)
    (hs1 : starEach [a, b] X.env = (false, eval a X.env) :: starEach [b] X.env := by rfl) (hs2 : starEach [b] X.env = (false, eval b X.env) :: starEach [] X.env := by rfl) :
    SS X (.Assign [.Tuple [.Name n px, .Name m py] kt pt] (.Tuple [a, b] k2 pt2) pos) (sPar i j f h) := by
  refine ⟨PSw (ps_par hc hN hi hj hij hx hy (pa_cons ha.out (pa_cons hb.out pa_nil hs2) hs1) hw hs) fun Dn σ H h => ?_⟩
  obtain ⟨g, O, env, x, r, x', S, e, k⟩ := h
  unfold sPar at e
  split at e
  · rename_i s1 x1 e1
    split at e
    · rename_i s2 x2 e2
      cases e
      refine ⟨g, O, env, x, s1, x1, S, e1, fun O1 v1 H1 S1 l1 w1 sub1 r1 n1 => ⟨g, O1, env, x1, s2, x', S1, e2, fun O2 v2 H2 S2 l2 w2 sub2 r2 n2 => ⟨v1, v2, rfl, ?_⟩⟩⟩
      have S3 := S2.setv i (sl_move S1 l2 w2 sub2 r1) fun d z => by
        obtain ⟨p, e3, hp⟩ := n1 d z
        exact ⟨p, e3, fun j d' b h1 h2 => own_ne S hp h1 h2⟩
      refine k O2 _ H2 (S3.setv j r2 fun d z => ?_)
      obtain ⟨p, e3, hp⟩ := n2 d z
      refine ⟨p, e3, fun j' d' b h1 h2 => ?_⟩
      rcases set_at h1 with ⟨z1, z2⟩ | ⟨z1, z2⟩
      · rcases set_at h2 with ⟨z3, z4⟩ | ⟨z3, z4⟩
        · have z4 : V.ref b = v1 := Option.some.inj z4
          subst z4
          subst z2
          cases r1 with
          | ow _ _ _ t =>
            obtain ⟨u, q⟩ := t.some
            exact fun z => by rw [z, hp] at q; cases q
        · exact absurd z1 z3
      · rcases set_at h2 with ⟨z3, z4⟩ | ⟨z3, z4⟩
        · exact absurd z3 z1
        · exact own_ne S1 hp z2 z4
    · cases e
  · cases e
def sRet (f : FE) : FS := fun env x => match f env x with
  | some (d, x1) => some (.rt d, x1)
  | none => none
theorem ss_ret (h : SE X e f) : SS X (.Return (some e) pos) (sRet f) := by
  refine ⟨PSw (ps_ret h.out) fun Dn σ H h => ?_⟩
  obtain ⟨g, O, env, x, r, x', S, e, k⟩ := h
  unfold sRet at e
  split at e
  · rename_i d x1 e1
    cases e
    exact ⟨g, O, env, x, d, x', S, e1, fun v H' S' l r => k O σ H' v env S' r⟩
  · cases e
def sNo : FS := fun _ _ => none
theorem ss_no {st : Stmt} : SS X st sNo := ⟨PSw ps_never fun Dn σ H h => by
  obtain ⟨g, O, env, x, r, x', S, e, k⟩ := h
  cases e⟩
def sNil : FS := fun env x => some (.nx env, x)
def sSeq (f h : FS) : FS := fun env x => match f env x with
  | some (.nx e1, x1) => h e1 x1
  | some (.rt d, x1) => some (.rt d, x1)
  | some (.bk e1, x1) => some (.bk e1, x1)
  | some (.ct e1, x1) => some (.ct e1, x1)
  | none => none
theorem sss_nil : SSs X [] sNil := ⟨PSsw pss_nil fun Dn σ H h => by
  obtain ⟨g, O, env, x, r, x', S, e, k⟩ := h
  cases e
  exact k O σ H S⟩
theorem sss_cons {st : Stmt} {rest : List Stmt} {f h : FS} (h1 : SS X st f) (h2 : SSs X rest h) : SSs X (st :: rest) (sSeq f h) := by
  refine ⟨PSsw (pss_cons h1.out h2.out) fun Dn σ H h => ?_⟩
  obtain ⟨g, O, env, x, r, x', S, e, k⟩ := h
  unfold sSeq at e
  split at e
  · rename_i e1 x1 q
    exact ⟨g, O, env, x, _, x1, S, q, fun O' σ' H' S' => ⟨g, O', e1, x1, r, x', S', e, k⟩⟩
  · rename_i d x1 q
    cases e
    exact ⟨g, O, env, x, _, x', S, q, k⟩
  · rename_i d x1 q
    cases e
    exact ⟨g, O, env, x, _, x', S, q, k⟩
  · rename_i d x1 q
    cases e
    exact ⟨g, O, env, x, _, x', S, q, k⟩
  · cases e
theorem sss_one {st : Stmt} {f : FS} (h1 : SS X st f) : SSs X [st] f := ⟨pss_one h1.out⟩
def sIf (t : FT) (f h : FS) : FS := fun env x => match t env x with
  | some (true, x1) => f env x1
  | some (false, x1) => h env x1
  | none => none
theorem ss_if {t : FT} {p q : List Stmt} {f h : FS} (ht : ST X c t) (h1 : SSs X p f) (h2 : SSs X q h) : SS X (.If c p q pos) (sIf t f h) := by
  refine ⟨PSw (ps_if ht.out h1.out h2.out) fun Dn σ H h => ?_⟩
  obtain ⟨g, O, env, x, r, x', S, e, k⟩ := h
  unfold sIf at e
  split at e
  · rename_i x1 e1
    refine ⟨g, O, env, x, _, x1, S, e1, fun H' S' l => ?_⟩
    refine iteT ?_
    exact ⟨g, O, env, x1, r, x', S', e, k⟩
  · rename_i x1 e1
    refine ⟨g, O, env, x, _, x1, S, e1, fun H' S' l => ?_⟩
    refine iteF ?_
    exact ⟨g, O, env, x1, r, x', S', e, k⟩
  · cases e
/-- an owned name is given up ahead of a statement -/
def eFrz (i : Nat) (env : FEn) : FEn := match env[i]? with
  | some (.ow d) => env.set i (.va d.d)
  | _ => env
def sFrz (i : Nat) (f : FS) : FS := fun env x => f (eFrz i env) x
theorem FSt.frz {K : PySem.W.Frag} {g : FG} {O : Addr → Prop} {σ : L2.St} {H : Hp} {env : FEn} {x : FRow} (S : FSt K g O σ H env x) (i : Nat) : ∃ O', FSt K g O' σ H (eFrz i env) x := by
  unfold eFrz
  split
  · rename_i d q
    obtain ⟨s, e1, q1⟩ := S.at q
    cases q1 with
    | ow p q1 q2 q3 => exact ⟨_, S.freeze q e1⟩
  · exact ⟨O, S⟩
theorem ss_frz {st : Stmt} {f : FS} (i : Nat) (h : SS X st f) : SS X st (sFrz i f) := by
  refine ⟨PSw h.out fun Dn σ H h => ?_⟩
  obtain ⟨g, O, env, x, r, x', S, e, k⟩ := h
  obtain ⟨O', S'⟩ := S.frz i
  exact ⟨g, O', eFrz i env, x, r, x', S', e, k⟩
end
end RT

namespace RT
open PySem PySem.Spec PyProof.Rows L2
/-! ### dicts -/
def dKeys : List D → Option (List L2.Key)
  | [] => some []
  | d :: ds => match dKey d, dKeys ds with
    | some k, some ks => some (k :: ks)
    | _, _ => none
theorem dKeys_ok : ∀ {ds : List D} {ks : List L2.Key}, dKeys ds = some ks → ds = ks.map keyD
  | [], ks, h => by simp [dKeys] at h; subst h; rfl
  | d :: ds, ks, h => by
    unfold dKeys at h
    split at h
    · rename_i k ks' h1 h2
      cases h
      rw [dKey_ok h1, dKeys_ok h2]
      rfl
    · cases h
theorem dKeys_map : ∀ ks : List L2.Key, dKeys (ks.map keyD) = some ks
  | [] => rfl
  | k :: ks => by
    have h : dKey (keyD k) = some k := by cases k <;> rfl
    simp only [List.map_cons, dKeys, h, dKeys_map ks]
theorem dKey_key (k : L2.Key) : dKey (keyD k) = some k := by cases k <;> rfl
theorem rp_keys {K : PySem.W.Frag} {O : Addr → Prop} {H : Hp} : ∀ {xs : List V} {ks : List L2.Key}, RpA K O H xs (ks.map keyD) → xs = ks.map kV
  | _, [], h => by cases h; rfl
  | _, k :: ks, h => by
    cases h with
    | cons a b => rw [dKey_rp (dKey_key k) a, rp_keys b]; rfl
def dKeyT : D → Option (List L2.Key)
  | .tuple ds => dKeys ds
  | _ => none
theorem dKeyT_ok {d : D} {ks : List L2.Key} (h : dKeyT d = some ks) : d = .tuple (ks.map keyD) := by
  cases d <;> simp [dKeyT] at h
  rw [dKeys_ok h]
theorem dKeyT_key (ks : List L2.Key) : dKeyT (.tuple (ks.map keyD)) = some ks := dKeys_map ks
section
variable {κ : Type} [DecidableEq κ]
/-- look up, put: by a reading of keys -/
def valD (kf : D → Option κ) (kvs : List (D × D)) (k : κ) : Option D := (kvs.find? fun p => decide (kf p.1 = some k)).map (·.2)
def putD (kf : D → Option κ) (kvs : List (D × D)) (kd : D) (k : κ) (v : D) : List (D × D) :=
  if (kvs.any fun p => decide (kf p.1 = some k)) then kvs.map fun p => if kf p.1 = some k then (p.1, v) else p else kvs ++ [(kd, v)]
end
section
variable {K : PySem.W.Frag} {O : Addr → Prop} {H : Hp}
theorem RpK.val {k : L2.Key} : ∀ {kvs : List (L2.Key × V)} {ds : List (D × D)}, RpK K O H kvs ds → (valV kvs k = none ∧ valD dKey ds k = none) ∨ ∃ v d, valV kvs k = some v ∧ valD dKey ds k = some d ∧ Rp K O H v d
  | _, _, .nil => .inl ⟨rfl, rfl⟩
  | _, _, .cons (k := k') (v := v) (d := d) (vs := vs) (ds := ds) a b => by
    by_cases e : k' = k
    · refine .inr ⟨v, d, valV_pos e, ?_, a⟩
      simp [valD, dKey_key, e]
    · rw [valV_neg (p := (k', v)) e]
      have h : valD dKey ((keyD k', d) :: ds) k = valD dKey ds k := by simp [valD, dKey_key, e]
      rw [h]
      exact RpK.val b
theorem RpK.any {k : L2.Key} : ∀ {kvs : List (L2.Key × V)} {ds : List (D × D)}, RpK K O H kvs ds → (kvs.any fun kv => decide (kv.1 = k)) = ds.any fun p => decide (dKey p.1 = some k)
  | _, _, .nil => rfl
  | _, _, .cons (k := k') a b => by
    rw [List.any_cons, List.any_cons, RpK.any b, dKey_key]
    simp
theorem RpK.repl {k : L2.Key} {v : V} {d : D} (r : Rp K O H v d) : ∀ {kvs : List (L2.Key × V)} {ds : List (D × D)}, RpK K O H kvs ds → RpK K O H (kvs.map fun kv => if kv.1 = k then (kv.1, v) else kv) (ds.map fun p => if dKey p.1 = some k then (p.1, d) else p)
  | _, _, .nil => .nil
  | _, _, .cons (k := k') a b => by
    rw [List.map_cons, List.map_cons]
    by_cases e : k' = k
    · subst e
      rw [if_pos rfl, if_pos (dKey_key k')]
      exact .cons r (RpK.repl r b)
    · rw [if_neg e, if_neg (by rw [dKey_key]; exact fun z => e (Option.some.inj z))]
      exact .cons a (RpK.repl r b)
theorem RpK.app : ∀ {a c : List (L2.Key × V)} {b d : List (D × D)}, RpK K O H a b → RpK K O H c d → RpK K O H (a ++ c) (b ++ d)
  | _, _, _, _, .nil, h => h
  | _, _, _, _, .cons p q, h => .cons p (RpK.app q h)
theorem RpK.length : ∀ {a : List (L2.Key × V)} {b : List (D × D)}, RpK K O H a b → a.length = b.length
  | _, _, .nil => rfl
  | _, _, .cons _ q => by rw [List.length_cons, List.length_cons, RpK.length q]
theorem RpK.put {k : L2.Key} {v : V} {d : D} {kvs : List (L2.Key × V)} {ds : List (D × D)} (q : RpK K O H kvs ds) (r : Rp K O H v d) : RpK K O H (putK kvs k v) (putD dKey ds (keyD k) k d) := by
  unfold putK putD
  rw [q.any]
  split
  · exact q.repl r
  · exact q.app (.cons r .nil)
theorem RpT.val {k : List L2.Key} : ∀ {kvs : List (List L2.Key × V)} {ds : List (D × D)}, RpT K O H kvs ds → (valV kvs k = none ∧ valD dKeyT ds k = none) ∨ ∃ v d, valV kvs k = some v ∧ valD dKeyT ds k = some d ∧ Rp K O H v d
  | _, _, .nil => .inl ⟨rfl, rfl⟩
  | _, _, .cons (k := k') (v := v) (d := d) (vs := vs) (ds := ds) a b => by
    by_cases e : k' = k
    · refine .inr ⟨v, d, valV_pos e, ?_, a⟩
      simp [valD, dKeyT_key, e]
    · rw [valV_neg (p := (k', v)) e]
      have h : valD dKeyT ((.tuple (k'.map keyD), d) :: ds) k = valD dKeyT ds k := by simp [valD, dKeyT_key, e]
      rw [h]
      exact RpT.val b
theorem RpT.any {k : List L2.Key} : ∀ {kvs : List (List L2.Key × V)} {ds : List (D × D)}, RpT K O H kvs ds → (kvs.any fun kv => decide (kv.1 = k)) = ds.any fun p => decide (dKeyT p.1 = some k)
  | _, _, .nil => rfl
  | _, _, .cons (k := k') a b => by
    rw [List.any_cons, List.any_cons, RpT.any b, dKeyT_key]
    simp
theorem RpT.repl {k : List L2.Key} {v : V} {d : D} (r : Rp K O H v d) : ∀ {kvs : List (List L2.Key × V)} {ds : List (D × D)}, RpT K O H kvs ds → RpT K O H (kvs.map fun kv => if kv.1 = k then (kv.1, v) else kv) (ds.map fun p => if dKeyT p.1 = some k then (p.1, d) else p)
  | _, _, .nil => .nil
  | _, _, .cons (k := k') a b => by
    rw [List.map_cons, List.map_cons]
    by_cases e : k' = k
    · subst e
      rw [if_pos rfl, if_pos (dKeyT_key k')]
      exact .cons r (RpT.repl r b)
    · rw [if_neg e, if_neg (by rw [dKeyT_key]; exact fun z => e (Option.some.inj z))]
      exact .cons a (RpT.repl r b)
theorem RpT.app : ∀ {a c : List (List L2.Key × V)} {b d : List (D × D)}, RpT K O H a b → RpT K O H c d → RpT K O H (a ++ c) (b ++ d)
  | _, _, _, _, .nil, h => h
  | _, _, _, _, .cons p q, h => .cons p (RpT.app q h)
theorem RpT.length : ∀ {a : List (List L2.Key × V)} {b : List (D × D)}, RpT K O H a b → a.length = b.length
  | _, _, .nil => rfl
  | _, _, .cons _ q => by rw [List.length_cons, List.length_cons, RpT.length q]
theorem RpT.put {k : List L2.Key} {v : V} {d : D} {kvs : List (List L2.Key × V)} {ds : List (D × D)} (q : RpT K O H kvs ds) (r : Rp K O H v d) : RpT K O H (putK kvs k v) (putD dKeyT ds (.tuple (k.map keyD)) k d) := by
  unfold putK putD
  rw [q.any]
  split
  · exact q.repl r
  · exact q.app (.cons r .nil)
end
/-- d[k] as data -/
def gDGet : D → D → Option (Option D)
  | .dict kvs, k => match dKey k with
    | some q => some (valD dKey kvs q)
    | none => none
  | .dictT kvs, k => match dKeyT k with
    | some q => some (valD dKeyT kvs q)
    | none => none
  | _, _ => none
theorem dget_ok {K : PySem.W.Frag} {g : FG} {O : Addr → Prop} {H : Hp} {v w : V} {d k : D} {r : Option D} (h : gDGet d k = some r) (rv : RpB K g O H v d) (rk : RpB K g O H w k) :
    ∃ a o, v = .ref a ∧ DGet H a w o ∧ ((o = none ∧ r = none) ∨ ∃ y z, o = some y ∧ r = some z ∧ Rp K O H y z) := by
  unfold gDGet at h
  split at h
  · split at h
    · rename_i kvs q e
      cases h
      obtain ⟨a, vs, rfl, hH, hr⟩ := rv.dct
      have ew : w = kV q := by
        rw [dKey_ok e] at rk
        cases q with
        | inl i => exact rk.int
        | inr s => exact rk.str
      subst ew
      refine ⟨a, _, rfl, DGet.k hH, ?_⟩
      rcases hr.val (k := q) with ⟨h1, h2⟩ | ⟨y, z, h1, h2, h3⟩
      · exact .inl ⟨h1, h2⟩
      · exact .inr ⟨y, z, h1, h2, h3⟩
    · cases h
  · split at h
    · rename_i kvs q e
      cases h
      obtain ⟨a, vs, rfl, hH, hr⟩ := rv.dcT
      rw [dKeyT_ok e] at rk
      obtain ⟨b, xs, rfl, hb, hx⟩ := rk.tup.tupAt
      rw [rp_keys hx] at hb
      refine ⟨a, _, rfl, DGet.t hH hb, ?_⟩
      rcases hr.val (k := q) with ⟨h1, h2⟩ | ⟨y, z, h1, h2, h3⟩
      · exact .inl ⟨h1, h2⟩
      · exact .inr ⟨y, z, h1, h2, h3⟩
    · cases h
  · cases h
section
variable {X : Cx} {a b c e : Expr} {es : List Expr} {fa fb fc f : FE} {pos : Pos}
def gDAt : D → D → Option D := fun d k => match gDGet d k with
  | some (some r) => some r
  | _ => none
theorem se_dget (hu : X.A.units + 1 < cLine) (ha : SB X a fa) (hb : SB X b fb) (hs : NoSl b := by exact fun _ _ => rfl) : SE X (.Subscript a b pos) (fBin gDAt fa fb) := by
  refine ⟨PEw (pe_dget hu ha.out hb.out hs) fun σ H Q h => ?_⟩
  obtain ⟨g, O, env, x, d, x', S, e, k⟩ := h
  obtain ⟨da, x1, db, r, e1, e2, e3, rfl⟩ := fBin_some e
  refine two S e1 e2 fun v w H' S' l rv rw => ?_
  unfold gDAt at e3
  split at e3
  · rename_i z q
    cases e3
    obtain ⟨p, o, rfl, hd, h | ⟨y, z', rfl, h2, h3⟩⟩ := dget_ok q rv rw
    · cases h.2
    · cases h2
      exact ⟨p, y, rfl, hd, k _ _ S' l h3⟩
  · cases e3
def gDIn : D → D → Option D := fun k d => match gDGet d k with
  | some o => some (.bool o.isSome)
  | _ => none
def gDNotIn : D → D → Option D := fun k d => match gDGet d k with
  | some o => some (.bool (!o.isSome))
  | _ => none
theorem isSome_of {o : Option V} {r : Option D} {K : PySem.W.Frag} {O : Addr → Prop} {H : Hp} (h : (o = none ∧ r = none) ∨ ∃ y z, o = some y ∧ r = some z ∧ Rp K O H y z) : o.isSome = r.isSome := by
  rcases h with ⟨rfl, rfl⟩ | ⟨y, z, rfl, rfl, _⟩ <;> rfl
theorem pc_dinB (hu : X.A.units + 1 < cLine) (ha : SB X a fa) (hb : SB X b fb) : PC X .In a b (tE X.K (fBin gDIn fa fb)) := by
  refine ⟨fun pins s σ H Q I h => (pc_din hu ha.out hb.out).run pins s σ H Q I ?_⟩
  obtain ⟨g, O, env, x, d, x', S, e, k⟩ := h
  obtain ⟨da, x1, db, r, e1, e2, e3, rfl⟩ := fBin_some e
  refine two S e1 e2 fun v w H' S' l rv rw => ?_
  unfold gDIn at e3
  split at e3
  · rename_i z q
    cases e3
    obtain ⟨p, o, rfl, hd, h⟩ := dget_ok q rw rv
    refine ⟨p, o, rfl, hd, ?_⟩
    rw [isSome_of h]
    exact k _ _ S' l (.bl _)
  · cases e3
theorem pc_dnotB (hu : X.A.units + 1 < cLine) (ha : SB X a fa) (hb : SB X b fb) : PC X .NotIn a b (tE X.K (fBin gDNotIn fa fb)) := by
  refine ⟨fun pins s σ H Q I h => (pc_dnotin hu ha.out hb.out).run pins s σ H Q I ?_⟩
  obtain ⟨g, O, env, x, d, x', S, e, k⟩ := h
  obtain ⟨da, x1, db, r, e1, e2, e3, rfl⟩ := fBin_some e
  refine two S e1 e2 fun v w H' S' l rv rw => ?_
  unfold gDNotIn at e3
  split at e3
  · rename_i z q
    cases e3
    obtain ⟨p, o, rfl, hd, h⟩ := dget_ok q rw rv
    refine ⟨p, o, rfl, hd, ?_⟩
    rw [isSome_of h]
    exact k _ _ S' l (.bl _)
  · cases e3
theorem se_din (hu : X.A.units + 1 < cLine) (ha : SB X a fa) (hb : SB X b fb) (hm : behindInMarks .In b = false := by rfl) : SE X (.Compare a [.In] [b] pos) (fBin gDIn fa fb) := ⟨pe_cmp (pc_dinB hu ha hb) hm⟩
theorem se_dnot (hu : X.A.units + 1 < cLine) (ha : SB X a fa) (hb : SB X b fb) (hm : behindInMarks .NotIn b = false := by rfl) : SE X (.Compare a [.NotIn] [b] pos) (fBin gDNotIn fa fb) := ⟨pe_cmp (pc_dnotB hu ha hb) hm⟩
theorem tB_of {f : FE} {σ : L2.St} {H : Hp} {Q : Bool → Hp → Prop} (h : tT X.K (fTst f) σ H Q) : L2.tB (tE X.K f) σ H Q := by
  obtain ⟨g, O, env, x, d, x', S, e, k⟩ := h
  refine ⟨g, O, env, x, _, x', S, fTst_some e, fun v H' S' l r => ?_⟩
  cases r
  exact ⟨d, rfl, k H' S' l⟩
theorem st_din (hu : X.A.units + 1 < cLine) (ha : SB X a fa) (hb : SB X b fb) (hm : behindInMarks .In b = false := by rfl) : ST X (.Compare a [.In] [b] pos) (fTst (fBin gDIn fa fb)) := ⟨PTw (pt_cmp (pc_dinB hu ha hb) hm) fun _ _ _ h => tB_of h⟩
theorem st_dnot (hu : X.A.units + 1 < cLine) (ha : SB X a fa) (hb : SB X b fb) (hm : behindInMarks .NotIn b = false := by rfl) : ST X (.Compare a [.NotIn] [b] pos) (fTst (fBin gDNotIn fa fb)) := ⟨PTw (pt_cmp (pc_dnotB hu ha hb) hm) fun _ _ _ h => tB_of h⟩

/-! ### owned things change -/
/-- d[k] = v: value first, then the dict's name, then the key -/
def sDPut (i : Nat) (fk fv : FE) : FS := fun env x => match fv env x with
  | some (v, x1) => match fk env x1 with
    | some (k, x2) => match env[i]? with
      | some (.ow (.dk kvs)) => match dKey k with
        | some q => if kvs.length < maxLen then some (.nx (env.set i (.ow (.dk (putD dKey kvs k q v)))), x2) else none
        | none => none
      | some (.ow (.dt kvs)) => match dKeyT k with
        | some q => if kvs.length < maxLen then some (.nx (env.set i (.ow (.dt (putD dKeyT kvs k q v)))), x2) else none
        | none => none
      | _ => none
    | none => none
  | none => none
theorem maxLen_lt {n : Nat} (h : n < maxLen) : n < sizeLine := Nat.lt_of_lt_of_le h (maxLen_ok (Nat.le_refl _))
theorem keep_own {K : PySem.W.Frag} {g : FG} {O : Addr → Prop} {σ : L2.St} {H : Hp} {env : FEn} {x : FRow} (S : FSt K g O σ H env x) {p : Addr} {o : HO} (hp : O p) : Keep O H (upd H p o) := fun b u n e => by
  rw [upd_ne (show b ≠ p from fun z => n (z ▸ hp))]; exact e
theorem ss_dput {i : Nat} {n : Str} {fk fv : FE} {p0 pos' : Pos} (hu : X.A.units + 1 < cLine) (hv : SE X c fv) (hk : SE X b fk) (hs : swapsWith c (some (.Subscript (.Name n p0) b pos')) pos.line X.env = pure false := by rfl)
    (hN : X.N[i]? = some n := by rfl) (hvis : Vis X.env.scope n := by first | exact Or.inl rfl | exact Or.inr (Or.inl rfl) | exact Or.inr (Or.inr rfl)) (hd : (n == ("__debug__" : Str)) = false := by decide)
    (hcd : (n == ("__classdict__" : Str)) = false := by decide) : SS X (.Assign [.Subscript (.Name n p0) b pos'] c pos) (sDPut i fk fv) := by
  refine ⟨PSw (ps_dput hu (pe_var hN hvis hd hcd) hk.out hv.out hs) fun Dn σ H h => ?_⟩
  obtain ⟨g, O, env, x, r, x', S, e, kk⟩ := h
  unfold sDPut at e
  split at e
  · rename_i v x1 e1
    split at e
    · rename_i k x2 e2
      split at e
      · rename_i kvs e3
        split at e
        · rename_i q e4
          split at e
          · rename_i hl
            cases e
            refine ⟨g, O, env, x, v, x1, S, e1, fun y H1 S1 l1 r1 => ?_⟩
            obtain ⟨s, e5, q5⟩ := S1.at e3
            cases q5 with
            | @ow p _ op q6 q7 w =>
              refine ⟨_, e5, ⟨g, O, env, x1, k, x', S1, e2, fun z H2 S2 l2 r2 => ?_⟩⟩
              obtain ⟨s2, e6, q8⟩ := S2.at e3
              rw [e5] at e6
              cases e6
              cases q8 with
              | ow _ _ _ w2 =>
                obtain ⟨vs, hH, hr⟩ := w2
                have ez := dKey_rp e4 r2
                subst ez
                refine ⟨p, _, rfl, DPut.k (k := q) hH (by rw [hr.length]; exact maxLen_lt hl), ?_⟩
                refine kk O _ _ (S2.put e3 e5 True.intro ⟨_, upd_same, ?_⟩)
                have e7 := dKey_ok e4
                subst e7
                exact (hr.put (r1.step S1 l2)).move (keep_own S2 op) .refl
          · cases e
        · cases e
      · rename_i kvs e3
        split at e
        · rename_i q e4
          split at e
          · rename_i hl
            cases e
            refine ⟨g, O, env, x, v, x1, S, e1, fun y H1 S1 l1 r1 => ?_⟩
            obtain ⟨s, e5, q5⟩ := S1.at e3
            cases q5 with
            | @ow p _ op q6 q7 w =>
              refine ⟨_, e5, ⟨g, O, env, x1, k, x', S1, e2, fun z H2 S2 l2 r2 => ?_⟩⟩
              obtain ⟨s2, e6, q8⟩ := S2.at e3
              rw [e5] at e6
              cases e6
              cases q8 with
              | ow _ _ _ w2 =>
                obtain ⟨vs, hH, hr⟩ := w2
                have e7 := dKeyT_ok e4
                subst e7
                obtain ⟨b', xs, rfl, hb, hx⟩ := r2.tupAt
                rw [rp_keys hx] at hb
                refine ⟨p, _, rfl, DPut.t (k := q) hH hb (by rw [hr.length]; exact maxLen_lt hl), ?_⟩
                refine kk O _ _ (S2.put e3 e5 True.intro ⟨_, upd_same, ?_⟩)
                exact (hr.put (r1.step S1 l2)).move (keep_own S2 op) .refl
          · cases e
        · cases e
      · cases e
    · cases e
  · cases e
/-- xs.append(e) -/
def sApp (i : Nat) (f : FE) : FS := fun env x => match f env x with
  | some (d, x1) => match env[i]? with
    | some (.ow (.lst ds)) => if ds.length < maxLen then some (.nx (env.set i (.ow (.lst (ds ++ [d])))), x1) else none
    | _ => none
  | none => none
theorem ss_app {i : Nat} {n : Str} {f : FE} {p0 apos cpos : Pos} (he : SE X e f)
    (hs : swapsWith (.Call (.Attribute (.Name n p0) "append" apos) [e] [] cpos) none pos.line X.env = pure false := by rfl)
    (hbase : attributeBase (.Name n p0) "append" X.env (eval (.Name n p0) X.env) = eval (.Name n p0) X.env := by rfl)
    (hfew : ((backTo cpos (starEach (e :: []) X.env)).all (fun x => !x.1) && (backToKw cpos (keywordEach [] X.env)).all (fun x => x.1.isSome)
      && decide ((e :: []).length + ([] : List Keyword).length + (if ([] : List Keyword).isEmpty then 0 else 1) < 30)) = true := by rfl)
    (hline : (apos.endLine == cpos.line) = true := by rfl) (hss : starEach (e :: []) X.env = (false, eval e X.env) :: starEach [] X.env := by rfl) (hplain : (backTo cpos (starEach [] X.env)).any (·.1) = false := by rfl)
    (hN : X.N[i]? = some n := by rfl) (hvis : Vis X.env.scope n := by first | exact Or.inl rfl | exact Or.inr (Or.inl rfl) | exact Or.inr (Or.inr rfl)) (hd : (n == ("__debug__" : Str)) = false := by decide)
    (hcd : (n == ("__classdict__" : Str)) = false := by decide) : SS X (.Expr (.Call (.Attribute (.Name n p0) "append" apos) [e] [] cpos) pos) (sApp i f) := by
  refine ⟨PSw (ps_expr (pe_bm PySem.F.plainAttrs_list PySem.F.slot_list_append PySem.F.type_list_append mt_append (pe_var hN hvis hd hcd) (pa_cons he.out pa_nil hss) hbase hfew hline hss hplain) hs) fun Dn σ H h => ?_⟩
  obtain ⟨g, O, env, x, r, x', S, e, kk⟩ := h
  unfold sApp at e
  split at e
  · rename_i v x1 e1
    split at e
    · rename_i ds e3
      split at e
      · rename_i hl
        cases e
        obtain ⟨s, e5, q5⟩ := S.at e3
        cases q5 with
        | @ow p _ op q6 q7 w =>
          obtain ⟨vs, hH, hr⟩ := w
          refine ⟨_, e5, .inl ⟨rfl, _, .of hH⟩, ⟨g, O, env, x, v, x', S, e1, fun z H2 S2 l2 r2 => ?_⟩⟩
          have hH2 := l2 p _ q7 hH
          refine ⟨p, vs, z, rfl, rfl, hH2, by rw [hr.length]; exact maxLen_lt hl, ?_⟩
          refine kk O _ _ (S2.put e3 e5 True.intro ⟨_, upd_same, ?_⟩)
          exact ((hr.step S l2).app (.cons r2 .nil)).move (keep_own S2 op) .refl
      · cases e
    · cases e
  · cases e
/-- xs.extend(e), e a list -/
def sExt (i : Nat) (f : FE) : FS := fun env x => match f env x with
  | some (.list es, x1) => match env[i]? with
    | some (.ow (.lst ds)) => if ds.length + es.length ≤ maxLen then some (.nx (env.set i (.ow (.lst (ds ++ es)))), x1) else none
    | _ => none
  | _ => none
theorem ss_ext {i : Nat} {n : Str} {f : FE} {p0 apos cpos : Pos} (he : SE X e f)
    (hs : swapsWith (.Call (.Attribute (.Name n p0) "extend" apos) [e] [] cpos) none pos.line X.env = pure false := by rfl)
    (hbase : attributeBase (.Name n p0) "extend" X.env (eval (.Name n p0) X.env) = eval (.Name n p0) X.env := by rfl)
    (hfew : ((backTo cpos (starEach (e :: []) X.env)).all (fun x => !x.1) && (backToKw cpos (keywordEach [] X.env)).all (fun x => x.1.isSome)
      && decide ((e :: []).length + ([] : List Keyword).length + (if ([] : List Keyword).isEmpty then 0 else 1) < 30)) = true := by rfl)
    (hline : (apos.endLine == cpos.line) = true := by rfl) (hss : starEach (e :: []) X.env = (false, eval e X.env) :: starEach [] X.env := by rfl) (hplain : (backTo cpos (starEach [] X.env)).any (·.1) = false := by rfl)
    (hN : X.N[i]? = some n := by rfl) (hvis : Vis X.env.scope n := by first | exact Or.inl rfl | exact Or.inr (Or.inl rfl) | exact Or.inr (Or.inr rfl)) (hd : (n == ("__debug__" : Str)) = false := by decide)
    (hcd : (n == ("__classdict__" : Str)) = false := by decide) : SS X (.Expr (.Call (.Attribute (.Name n p0) "extend" apos) [e] [] cpos) pos) (sExt i f) := by
  refine ⟨PSw (ps_expr (pe_bm PySem.F.plainAttrs_list PySem.F.slot_list_extend PySem.F.type_list_extend mt_extend (pe_var hN hvis hd hcd) (pa_cons he.out pa_nil hss) hbase hfew hline hss hplain) hs) fun Dn σ H h => ?_⟩
  obtain ⟨g, O, env, x, r, x', S, e, kk⟩ := h
  unfold sExt at e
  split at e
  · rename_i es x1 e1
    split at e
    · rename_i ds e3
      split at e
      · rename_i hl
        cases e
        obtain ⟨s, e5, q5⟩ := S.at e3
        cases q5 with
        | @ow p _ op q6 q7 w =>
          obtain ⟨vs, hH, hr⟩ := w
          refine ⟨_, e5, .inl ⟨rfl, _, .of hH⟩, ⟨g, O, env, x, _, x', S, e1, fun z H2 S2 l2 r2 => ?_⟩⟩
          have hH2 := l2 p _ q7 hH
          cases r2 with
          | @lst b zs _ nb hb rz =>
            refine ⟨p, b, vs, zs, rfl, rfl, hH2, hb, by rw [hr.length, rz.length]; exact maxLen_ok hl, ?_⟩
            refine kk O _ _ (S2.put e3 e5 True.intro ⟨_, upd_same, ?_⟩)
            exact ((hr.step S l2).app rz).move (keep_own S2 op) .refl
      · cases e
    · cases e
  · cases e
end
end RT

namespace RT
open PySem PySem.Spec PyProof.Rows L2
/-! ### ghosts, wiping -/
def FG.add (g : FG) (more : List (V × D)) : FG := { g with gs := more ++ g.gs }
section
variable {K : PySem.W.Frag} {g : FG} {O O' : Addr → Prop} {σ : L2.St} {H H' : Hp} {env : FEn} {x x' : FRow}
theorem FSt.regh {g' : FG} (S : FSt K g O σ H env x) (h0 : g'.O0 = g.O0) (h1 : g'.H0 = g.H0) (h2 : g'.R = g.R) (h3 : ∀ p ∈ g'.gs, Rp K O H p.1 p.2) : FSt K g' O σ H env x where
  sub := by rw [h0]; exact S.sub
  new := by rw [h0, h1]; exact S.new
  dom := S.dom
  le := by rw [h1]; intro a o; rw [h2]; exact S.le a o
  row := by rw [h0, h1, h2]; exact S.row
  len := S.len
  sl := fun i s e e1 e2 => by
    cases S.sl i s e e1 e2 with
    | no => exact .no _
    | va r => exact .va r
    | ow p q r t => exact .ow p (by rw [h0]; exact q) (by rw [h2]; exact r) t
    | rw e => exact .rw (by rw [h2]; exact e)
  dis := S.dis
  gh := h3
theorem FSt.addg (S : FSt K g O σ H env x) (more : List (V × D)) (h : ∀ p ∈ more, Rp K O H p.1 p.2) : FSt K (g.add more) O σ H env x :=
  S.regh rfl rfl rfl fun p hp => (List.mem_append.mp hp).elim (h p) (S.gh p)
theorem FSt.unadd {more : List (V × D)} (S : FSt K (g.add more) O σ H env x) : FSt K g O σ H env x :=
  S.regh rfl rfl rfl fun p hp => S.gh p (List.mem_append_right _ hp)
def wipeE (env : FEn) : List Nat → FEn
  | [] => env
  | v :: vs => (wipeE env vs).set v .no
theorem wipe_get (σ : L2.St) (j : Nat) : ∀ vs : List Nat, (wipe σ vs)[j]? = if j ∈ vs then (σ[j]?).map (fun _ => none) else σ[j]?
  | [] => by simp [wipe]
  | v :: vs => by
    unfold wipe
    rw [List.getElem?_set]
    have ih := wipe_get σ j vs
    have hl := wipe_length σ vs
    by_cases e : v = j
    · subst e
      have hm : v ∈ v :: vs := List.mem_cons_self
      rw [if_pos rfl, if_pos hm, hl]
      by_cases hv : v < σ.length
      · rw [if_pos hv, List.getElem?_eq_getElem hv]; rfl
      · rw [if_neg hv, List.getElem?_eq_none (by omega)]; rfl
    · rw [if_neg e, ih]
      have : (j ∈ v :: vs) ↔ j ∈ vs := by simp [show ¬ j = v from fun z => e z.symm]
      by_cases q : j ∈ vs
      · rw [if_pos q, if_pos (this.mpr q)]
      · rw [if_neg q, if_neg (fun z => q (this.mp z))]
theorem wipe_set {σ : L2.St} {i : Nat} {s : Option V} {vs : List Nat} (h : i ∈ vs) : wipe (σ.set i s) vs = wipe σ vs := by
  apply List.ext_getElem?
  intro j
  rw [wipe_get, wipe_get]
  by_cases q : j ∈ vs
  · rw [if_pos q, if_pos q, List.getElem?_set]
    by_cases e : i = j
    · subst e
      rw [if_pos rfl]
      by_cases hl : i < σ.length
      · rw [if_pos hl, List.getElem?_eq_getElem hl]; rfl
      · rw [if_neg hl, List.getElem?_eq_none (by omega)]
    · rw [if_neg e]
  · rw [if_neg q, if_neg q, List.getElem?_set_ne (fun e => q (by rw [← e]; exact h))]
theorem wipe_wipe (σ : L2.St) (vs : List Nat) : wipe (wipe σ vs) vs = wipe σ vs := by
  apply List.ext_getElem?
  intro j
  rw [wipe_get, wipe_get]
  by_cases q : j ∈ vs
  · rw [if_pos q, if_pos q]; cases σ[j]? <;> rfl
  · rw [if_neg q, if_neg q]
theorem wipeE_len (env : FEn) : ∀ vs : List Nat, (wipeE env vs).length = env.length
  | [] => rfl
  | v :: vs => by unfold wipeE; rw [List.length_set, wipeE_len env vs]
theorem wipeE_get {j : Nat} {e : FSl} : ∀ {vs : List Nat}, (wipeE env vs)[j]? = some e → e = .no ∨ (j ∉ vs ∧ env[j]? = some e)
  | [], h => .inr ⟨by simp, h⟩
  | v :: vs, h => by
    unfold wipeE at h
    rcases set_at h with ⟨e1, e2⟩ | ⟨e1, e2⟩
    · exact .inl e2
    · rcases wipeE_get e2 with q | ⟨q1, q2⟩
      · exact .inl q
      · exact .inr ⟨by simp [q1, show ¬ j = v from fun z => e1 z.symm], q2⟩
theorem FSt.wiped (S : FSt K g O σ H env x) (vs : List Nat) : FSt K g O (wipe σ vs) H (wipeE env vs) x where
  sub := S.sub
  new := S.new
  dom := S.dom
  le := S.le
  row := S.row
  len := by rw [wipe_length, wipeE_len]; exact S.len
  sl := fun j s e h1 h2 => by
    rcases wipeE_get h2 with rfl | ⟨q1, q2⟩
    · exact .no _
    · rw [wipe_get, if_neg q1] at h1
      exact S.sl j s e h1 q2
  dis := fun i j d d' a b ne h1 h2 h3 h4 => by
    rcases wipeE_get h1 with z | ⟨q1, q2⟩
    · cases z
    · rcases wipeE_get h2 with z | ⟨q3, q4⟩
      · cases z
      · rw [wipe_get, if_neg q1] at h3
        rw [wipe_get, if_neg q3] at h4
        exact S.dis i j d d' a b ne q2 q4 h3 h4
  gh := S.gh
/-- an owned thing that no name holds changes -/
theorem FSt.upd1 (S : FSt K g O σ H env x) {p : Addr} {o : HO} (op : O p) (n0 : ¬ g.O0 p) (nr : g.R ≠ some p) (mu : Mut (some o)) (ne : ∀ (j : Nat) d b, env[j]? = some (.ow d) → σ[j]? = some (some (.ref b)) → b ≠ p) : FSt K g O σ (upd H p o) env x := by
  have h0 : g.H0 p = none := by
    rcases S.new p op with z | z
    · exact absurd z n0
    · exact z
  have kp := keep_own (o := o) S op
  have mp := S.dom p op
  refine ⟨S.sub, S.new, fun a ha => ?_, fun c u hR e => ?_, fun r e => ?_, S.len, fun j s e' e1 e2 => ?_, S.dis, fun q hq => (S.gh q hq).move kp .refl⟩
  · by_cases z : a = p
    · subst z; rw [upd_same]; exact mu
    · rw [upd_ne z]; exact S.dom a ha
  · have z : c ≠ p := fun z => by rw [z, h0] at e; cases e
    rw [upd_ne z]; exact S.le c u hR e
  · obtain ⟨q1, q2, a0, q3, q4⟩ := S.row r e
    refine ⟨q1, q2, a0, ?_, ?_⟩
    · rw [upd_ne (show r ≠ p from fun z => nr (z ▸ e))]; exact q3
    · rcases q4 with ⟨u, q4⟩ | q4
      · refine .inl ⟨u, ?_⟩
        rw [upd_ne (show a0 ≠ p from fun z => by rw [← z, q4] at mp; exact mp)]
        exact q4
      · exact .inr q4
  · cases S.sl j s e' e1 e2 with
    | no => exact .no _
    | va r => exact .va (r.move kp .refl)
    | ow q1 q2 q3 t => exact .ow q1 q2 q3 (t.move (fun u eu => by rw [upd_ne (ne j _ _ e2 e1)]; exact eu) kp .refl)
    | rw e => exact .rw e
/-- the wider O of a new thing is forgotten -/
theorem FSt.shrink {H0 : Hp} {x0 : FRow} (S0 : FSt K g O σ H0 env x0) (S : FSt K g O' σ H env x) (h : ∀ a, O a → O' a) : FSt K g O σ H env x where
  sub := S0.sub
  new := S0.new
  dom := fun a ha => S.dom a (h a ha)
  le := S.le
  row := S.row
  len := S.len
  sl := fun i s e e1 e2 => by
    have w : Wid O' O H := fun a z => .inl (h a z)
    cases S.sl i s e e1 e2 with
    | no => exact .no _
    | va r => exact .va (r.move (fun _ _ _ e => e) w)
    | ow p q r t =>
      cases S0.sl i _ _ e1 e2 with
      | ow p0 _ _ _ => exact .ow p0 q r (t.move (fun _ e => e) (fun _ _ _ e => e) w)
    | rw e => exact .rw e
  dis := S.dis
  gh := fun p hp => (S.gh p hp).move (fun _ _ _ e => e) (fun a z => .inl (h a z))
end
section
variable {X : Cx} {a b c e : Expr} {es : List Expr} {fa fb fc f : FE} {pos : Pos}
def fOfX (f : FX) : FE := fun env x => match f env x with
  | some (.va d, x1) => some (d, x1)
  | some (.ow w, x1) => some (w.d, x1)
  | _ => none
theorem se_ofX {f : FX} (h : SX X e f) : SE X e (fOfX f) := by
  refine ⟨PEw h.out fun σ H Q h => ?_⟩
  obtain ⟨g, O, env, x, d, x', S, e, k⟩ := h
  unfold fOfX at e
  split at e
  · rename_i dd x1 e1
    cases e
    refine ⟨g, O, env, x, _, x', S, e1, fun O' v H' S' l w sub r nw => ?_⟩
    cases r with
    | va r => exact k v H' (S.shrink S' sub) l (r.move (fun _ _ _ e => e) fun a z => .inl (sub a z))
  · rename_i dd x1 e1
    cases e
    refine ⟨g, O, env, x, _, x', S, e1, fun O' v H' S' l w sub r nw => ?_⟩
    obtain ⟨p, rfl, hp⟩ := nw _ rfl
    have np := S.notO hp
    have wd : Wid O' O H' := fun a z => .inl (sub a z)
    cases r with
    | ow p1 q r t =>
      refine k _ H' (S.shrink S' sub) l ?_
      cases dd with
      | lst ds => obtain ⟨xs, e, r⟩ := t; exact .lst np e (r.move (fun _ _ _ e => e) wd)
      | dk ds => obtain ⟨xs, e, r⟩ := t; exact .dK np e (r.move (fun _ _ _ e => e) wd)
      | dt ds => obtain ⟨xs, e, r⟩ := t; exact .dT np e (r.move (fun _ _ _ e => e) wd)
  · cases e

/-! ### targets -/
abbrev FGt := D → FEn → Option FEn
abbrev FGs := List D → FEn → Option FEn
def tG (K : PySem.W.Frag) (vs : List Nat) (f : FGt) : TG := fun v σ H Q => ∃ g O env x d env', FSt K g O σ H env x ∧ Rp K O H v d ∧ f d env = some env' ∧ ∀ σ', wipe σ' vs = wipe σ vs → FSt K g O σ' H env' x → Q σ' H
def tGs (K : PySem.W.Frag) (vs : List Nat) (f : FGs) : TGs := fun v σ H Q => ∃ g O env x d env', FSt K g O σ H env x ∧ RpA K O H v d ∧ f d env = some env' ∧ ∀ σ', wipe σ' vs = wipe σ vs → FSt K g O σ' H env' x → Q σ' H
structure SG (X : Cx) (e : Expr) (vs : List Nat) (f : FGt) : Prop where
  out : PG X e (tG X.K vs f)
structure SGs (X : Cx) (e : List Expr) (vs : List Nat) (f : FGs) : Prop where
  out : PGs X e (tGs X.K vs f)
theorem PGw {t t' : TG} (h : PG X e t) (q : ∀ v σ H Q, t' v σ H Q → t v σ H Q) : PG X e t' := ⟨fun pins s σ H v u Q I r z => h.run pins s σ H v u Q I r (q _ _ _ _ z)⟩
theorem PGsw {t t' : TGs} (h : PGs X es t) (q : ∀ v σ H Q, t' v σ H Q → t v σ H Q) : PGs X es t' := ⟨fun pins s σ H v u Q I r z => h.run pins s σ H v u Q I r (q _ _ _ _ z)⟩
def gtName (i : Nat) : FGt := fun d env => some (env.set i (.va d))
theorem sg_name (i : Nat) {n : Str} {vs : List Nat} (hN : X.N.Nodup) (hi : X.N[i]? = some n) (hx : Loc X.env.scope n) (hv : i ∈ vs) (hf : X.fn n = true ∨ X.env.scope.names.lookup n = some .local := by first | exact .inl rfl | exact .inr rfl | assumption) : SG X (.Name n pos) vs (gtName i) := by
  refine ⟨PGw (pg_name hN hi hx hf) fun v σ H Q h => ?_⟩
  obtain ⟨g, O, env, x, d, env', S, r, e, k⟩ := h
  cases e
  exact k _ (wipe_set hv) (S.setv i (.va r) fun d z => by cases z)
def gtNil : FGs := fun ds env => match ds with
  | [] => some env
  | _ => none
def gtCons (f : FGt) (h : FGs) : FGs := fun ds env => match ds with
  | d :: ds => match f d env with
    | some e1 => h ds e1
    | none => none
  | [] => none
theorem sgs_nil {vs : List Nat} : SGs X [] vs gtNil := by
  refine ⟨PGsw pgs_nil fun v σ H Q h => ?_⟩
  obtain ⟨g, O, env, x, d, env', S, r, e, k⟩ := h
  unfold gtNil at e
  split at e
  · cases e
    cases r
    exact ⟨rfl, k _ rfl S⟩
  · cases e
theorem sgs_cons {vs : List Nat} {f : FGt} {h : FGs} (h1 : SG X e vs f) (h2 : SGs X es vs h) (hs : (assignEach (e :: es) X.env).map (·.2) = assign e X.env :: (assignEach es X.env).map (·.2) := by rfl) : SGs X (e :: es) vs (gtCons f h) := by
  refine ⟨PGsw (pgs_cons h1.out h2.out hs) fun v σ H Q h => ?_⟩
  obtain ⟨g, O, env, x, d, env', S, r, e, k⟩ := h
  unfold gtCons at e
  split at e
  · split at e
    · rename_i d ds _ e1 q
      cases r with
      | cons r1 r2 => exact ⟨_, _, rfl, g, O, env, x, d, e1, S, r1, q, fun σ1 w1 S1 => ⟨g, O, e1, x, ds, env', S1, r2, e, fun σ2 w2 S2 => k σ2 (w2.trans w1) S2⟩⟩
    · cases e
  · cases e
def gtTup (n : Nat) (h : FGs) : FGt := fun d env => match d with
  | .tuple ds => if ds.length = n then h ds env else none
  | _ => none
theorem sg_tup {vs : List Nat} {k n : Nat} {h : FGs} (hc : X.calm = true) (h1 : SGs X es vs h) (hn : (assignEach es X.env).length = n := by rfl) (hst : (assignEach es X.env).findIdx? (·.1) = none := by rfl) : SG X (.Tuple es k pos) vs (gtTup n h) := by
  refine ⟨PGw (pg_tup hc h1.out hn hst) fun v σ H Q h => ?_⟩
  obtain ⟨g, O, env, x, d, env', S, r, e, k⟩ := h
  unfold gtTup at e
  split at e
  · rename_i ds
    split at e
    · rename_i hl
      obtain ⟨p, xs, rfl, hp, rx⟩ := r.tupAt
      exact ⟨p, xs, rfl, .of hp, by rw [rx.length]; exact hl, g, O, env, x, ds, env', S, rx, e, k⟩
    · cases e
  · cases e
/-- a, b = e -/
def sUnp (f : FE) (h : FGt) : FS := fun env x => match f env x with
  | some (d, x1) => match h d env with
    | some e1 => some (.nx e1, x1)
    | none => none
  | none => none
theorem ss_unp {tg : Expr} {vs : List Nat} {f : FE} {h : FGt} (he : SE X e f) (hg : SG X tg vs h) (hs : swapsWithSole [tg] e pos.line X.env = pure false := by rfl) (hw : swappedStores [tg] e X.env = pure none := by rfl)
    (h1 : (assignEach [tg] X.env).map (·.2) = [assign tg X.env] := by rfl) : SS X (.Assign [tg] e pos) (sUnp f h) := by
  refine ⟨PSw (ps_asg he.out hg.out hs hw h1) fun Dn σ H h => ?_⟩
  obtain ⟨g, O, env, x, r, x', S, e, k⟩ := h
  unfold sUnp at e
  split at e
  · rename_i d x1 e1
    split at e
    · rename_i env1 e2
      cases e
      exact ⟨g, O, env, x, d, x', S, e1, fun v H1 S1 l1 r1 => ⟨g, O, env, x', d, env1, S1, r1, e2, fun σ' _ S2 => k O σ' H1 S2⟩⟩
    · cases e
  · cases e

/-! ### what is walked -/
def WalksD (K : PySem.W.Frag) (J : It) (g : FG) (ds : List D) : Prop := ∀ O σ H env x i, FSt K g O σ H env x →
  (∀ d, ds[i]? = some d → J.go i H ∧ ∀ v H', J.yld i H v H' → Same H H' ∧ Rp K O H' v d) ∧ (i = ds.length → J.stop i H)
def tI (K : PySem.W.Frag) (f : FA) : TI := fun σ H R => ∃ g O env x ds x', FSt K g O σ H env x ∧ f env x = some (ds, x') ∧
  ∀ J more H', FSt K (g.add more) O σ H' env x' → Le g H H' → WalksD K J (g.add more) ds → R J H'
structure SI (X : Cx) (tg e : Expr) (f : FA) : Prop where
  out : PI X tg e (tI X.K f)
def fSeq (f : FE) : FA := fun env x => match f env x with
  | some (.list ds, x1) => some (ds, x1)
  | some (.tuple ds, x1) => some (ds, x1)
  | _ => none
theorem si_seq {tg : Expr} (h : SE X e f) : SI X tg e (fSeq f) := by
  refine ⟨⟨fun pins s σ H R I h2 => ?_⟩⟩
  obtain ⟨g, O, env, x, ds, x', S, e, k⟩ := h2
  unfold fSeq at e
  split at e
  · rename_i ds' x1 e1
    cases e
    refine (pi_list h.out).run pins s σ H R I ⟨g, O, env, x, _, x', S, e1, fun v H1 S1 l1 r1 => ?_⟩
    cases r1 with
    | @lst p xs _ np hp rx =>
      refine ⟨p, rfl, ⟨xs, .of hp⟩, k _ [(.ref p, .list ds)] H1 (S1.addg _ fun q hq => ?_) l1 fun O2 σ2 H2 env2 x2 i S2 => ?_⟩
      · rw [List.mem_singleton] at hq
        subst hq
        exact .lst np hp rx
      · have q := S2.gh (.ref p, .list ds) (by simp [FG.add])
        cases q with
        | @lst _ ys _ np2 hp2 ry =>
          refine ⟨fun d hd => ?_, fun hi => ⟨ys, .of hp2, by rw [ry.length, hi]; exact Nat.le_refl _⟩⟩
          obtain ⟨y, e2, r2⟩ := ry.get hd
          refine ⟨⟨ys, y, .of hp2, e2⟩, fun v H' hy => ?_⟩
          obtain ⟨rfl, hy⟩ := hy
          have e3 := hy ys (.of hp2)
          rw [e2] at e3
          cases e3
          exact ⟨Same.refl _, r2⟩
  · rename_i ds' x1 e1
    cases e
    refine (pi_tup h.out).run pins s σ H R I ⟨g, O, env, x, _, x', S, e1, fun v H1 S1 l1 r1 => ?_⟩
    cases r1 with
    | @tup p xs _ np hp rx =>
      refine ⟨p, rfl, ⟨xs, .of hp⟩, k _ [(.ref p, .tuple ds)] H1 (S1.addg _ fun q hq => ?_) l1 fun O2 σ2 H2 env2 x2 i S2 => ?_⟩
      · rw [List.mem_singleton] at hq
        subst hq
        exact .tup np hp rx
      · have q := S2.gh (.ref p, .tuple ds) (by simp [FG.add])
        cases q with
        | @tup _ ys _ np2 hp2 ry =>
          refine ⟨fun d hd => ?_, fun hi => ⟨ys, .of hp2, by rw [ry.length, hi]; exact Nat.le_refl _⟩⟩
          obtain ⟨y, e2, r2⟩ := ry.get hd
          refine ⟨⟨ys, y, .of hp2, e2⟩, fun v H' hy => ?_⟩
          obtain ⟨rfl, hy⟩ := hy
          have e3 := hy ys (.of hp2)
          rw [e2] at e3
          cases e3
          exact ⟨Same.refl _, r2⟩
  · cases e
def rgD (lo : Int) (n : Nat) : List D := (List.range n).map fun (i : Nat) => D.int (lo + (i : Int))
theorem rgD_len (lo : Int) (n : Nat) : (rgD lo n).length = n := by simp [rgD]
theorem rgD_get {lo : Int} {n i : Nat} {d : D} (h : (rgD lo n)[i]? = some d) : i < n ∧ d = .int (lo + (i : Int)) := by
  unfold rgD at h
  rw [List.getElem?_map] at h
  by_cases hi : i < n
  · rw [List.getElem?_range hi] at h
    exact ⟨hi, (Option.some.inj h).symm⟩
  · rw [List.getElem?_eq_none (by simpa using hi)] at h
    cases h
theorem walks_rg {K : PySem.W.Frag} {g : FG} (lo : Int) (n : Nat) : WalksD K (Itr lo n) g (rgD lo n) := fun O σ H env x i S => by
  refine ⟨fun d hd => ?_, fun hi => by rw [rgD_len] at hi; exact Nat.le_of_eq hi.symm⟩
  obtain ⟨hi, rfl⟩ := rgD_get hd
  refine ⟨hi, fun v H' hy => ?_⟩
  obtain ⟨rfl, rfl⟩ := hy
  exact ⟨Same.refl _, .int _⟩
def okRg (i : Int) : Bool := decide (-(2 ^ 62) ≤ i ∧ i < 2 ^ 62)
def fRg1 (f : FE) : FA := fun env x => match f env x with
  | some (.int n, x1) => if okRg n then some (rgD 0 n.toNat, x1) else none
  | _ => none
theorem add_nil {g : FG} : g.add [] = g := rfl
theorem si_rg1 {tg : Expr} {p : Pos} (hg : Gl X "range") (hm : X.mg "range" = none) (ha : SE X a fa) (hs : starEach [a] X.env = [(false, eval a X.env)] := by rfl) : SI X tg (.Call (.Name "range" p) [a] [] pos) (fRg1 fa) := by
  refine ⟨⟨fun pins s σ H R I h2 => ?_⟩⟩
  obtain ⟨g, O, env, x, ds, x', S, e, k⟩ := h2
  unfold fRg1 at e
  split at e
  · rename_i n x1 e1
    split at e
    · rename_i ok
      cases e
      have ok := of_decide_eq_true ok
      refine (pi_range1 hg hm (pa_cons ha.out pa_nil hs) hs).run pins s σ H R I ⟨g, O, env, x, _, x', S, e1, fun v H1 S1 l1 r1 => ?_⟩
      cases r1
      exact ⟨n, rfl, ok.1, ok.2, k _ [] H1 S1 l1 (walks_rg 0 _)⟩
    · cases e
  · cases e
def fRg2 (f h : FE) : FA := fun env x => match f env x with
  | some (.int m, x1) => match h env x1 with
    | some (.int n, x2) => if okRg m && okRg n then some (rgD m (n - m).toNat, x2) else none
    | _ => none
  | _ => none
theorem si_rg2 {tg : Expr} {p : Pos} (hg : Gl X "range") (hm : X.mg "range" = none) (ha : SE X a fa) (hb : SE X b fb) (hs : starEach [a, b] X.env = [(false, eval a X.env), (false, eval b X.env)] := by rfl) (hs2 : starEach [b] X.env = [(false, eval b X.env)] := by rfl) (hs1 : starEach [a, b] X.env = (false, eval a X.env) :: starEach [b] X.env := by rfl) : SI X tg (.Call (.Name "range" p) [a, b] [] pos) (fRg2 fa fb) := by
  refine ⟨⟨fun pins s σ H R I h2 => ?_⟩⟩
  obtain ⟨g, O, env, x, ds, x', S, e, k⟩ := h2
  unfold fRg2 at e
  split at e
  · rename_i m x1 e1
    split at e
    · rename_i n x2 e2
      split at e
      · rename_i ok
        cases e
        obtain ⟨o1, o2⟩ := Bool.and_eq_true_iff.mp ok
        have o1 := of_decide_eq_true o1
        have o2 := of_decide_eq_true o2
        refine (pi_range2 hg hm (pa_cons ha.out (pa_cons hb.out pa_nil hs2) hs1) hs hs2).run pins s σ H R I ⟨g, O, env, x, _, x1, S, e1, fun v H1 S1 l1 r1 => ⟨g, O, env, x1, _, x', S1, e2, fun w H2 S2 l2 r2 => ?_⟩⟩
        cases r1
        cases r2
        exact ⟨m, n, rfl, ⟨o1.1, o1.2, o2.1, o2.2⟩, k _ [] H2 S2 (l1.trans l2) (walks_rg m _)⟩
      · cases e
    · cases e
  · cases e
/-! ### for -/
def forL (gt : FGt) (b : FS) : List D → FS
  | [], env, x => some (.nx env, x)
  | d :: ds, env, x => match gt d env with
    | none => none
    | some e1 => match b e1 x with
      | some (.nx e2, x2) => forL gt b ds e2 x2
      | some (.ct e2, x2) => forL gt b ds e2 x2
      | some (.bk e2, x2) => some (.nx e2, x2)
      | some (.rt d, x2) => some (.rt d, x2)
      | none => none
def sFor (f : FA) (gt : FGt) (b : FS) : FS := fun env x => match f env x with
  | some (ds, x1) => forL gt b ds env x1
  | none => none
theorem drop_get {α : Type} {l : List α} {i : Nat} {d : α} (h : l[i]? = some d) : l.drop i = d :: l.drop (i + 1) := by
  obtain ⟨hl, e⟩ := List.getElem?_eq_some_iff.mp h
  rw [List.drop_eq_getElem_cons hl, e]
theorem ss_for {tg : Expr} {body : List Stmt} {vs : List Nat} {f : FA} {gt : FGt} {fb : FS} (hp : PassesOwn (model X.prog X.w) X.A X.env X.xe) (hc : X.calm = true) (hi : SI X tg e f) (hg : SG X tg vs gt) (hb : SSs X body fb)
    (hs : ∀ x, foldedSetIterable e X.env x = pure x := by intro _; rfl) : SS X (.For tg e body [] pos) (sFor f gt fb) := by
  refine ⟨PSw (ps_for hp hc hi.out hg.out hb.out hs) fun Dn σ H h => ?_⟩
  obtain ⟨g, O, env, x, r, x', S, e, k⟩ := h
  unfold sFor at e
  split at e
  · rename_i ds x1 e1
    refine ⟨g, O, env, x, ds, x1, S, e1, fun J more H1 S1 l1 wk => ?_⟩
    refine ⟨fun i m σ H => m = ds.length - i ∧ i ≤ ds.length ∧ ∃ O env x, FSt X.K (g.add more) O σ H env x ∧ forL gt fb (ds.drop i) env x = some (r, x'), ⟨_, rfl, Nat.zero_le _, O, env, x1, S1, e⟩, fun i m σ H hW => ?_⟩
    obtain ⟨rfl, hil, O, env, x, S, e⟩ := hW
    obtain ⟨wgo, wst⟩ := wk O σ H env x i S
    by_cases hlt : i < ds.length
    · have hd : ds[i]? = some ds[i] := List.getElem?_eq_getElem hlt
      obtain ⟨go, yl⟩ := wgo _ hd
      rw [drop_get hd] at e
      refine .inr ⟨go, fun σ' H' => i + 1 ≤ ds.length ∧ ∃ O env x, FSt X.K (g.add more) O σ' H' env x ∧ forL gt fb (ds.drop (i + 1)) env x = some (r, x'), fun σ' H' hN => ⟨ds.length - (i + 1), by omega, rfl, hN.1, hN.2⟩, fun v H' hy => ?_⟩
      obtain ⟨sm, rv⟩ := yl v H' hy
      unfold forL at e
      split at e
      · cases e
      · rename_i env1 e2
        refine ⟨g.add more, O, env, x, ds[i], env1, S.same sm, rv, e2, fun σ1 _ S2 => ?_⟩
        split at e
        · rename_i env2 x2 e3
          exact ⟨g.add more, O, env1, x, _, x2, S2, e3, fun O' σ' H' S' => ⟨hlt, O', env2, x2, S', e⟩⟩
        · rename_i env2 x2 e3
          exact ⟨g.add more, O, env1, x, _, x2, S2, e3, fun O' σ' H' S' => ⟨hlt, O', env2, x2, S', e⟩⟩
        · rename_i env2 x2 e3
          cases e
          exact ⟨g.add more, O, env1, x, _, x', S2, e3, fun O' σ' H' S' => k O' σ' H' S'.unadd⟩
        · rename_i d x2 e3
          cases e
          exact ⟨g.add more, O, env1, x, _, x', S2, e3, fun O' σ' H' v env' S' r' => k O' σ' H' v env' S'.unadd r'⟩
        · cases e
    · have hi : i = ds.length := by omega
      rw [hi, List.drop_length] at e
      unfold forL at e
      cases e
      exact .inl ⟨wst hi, k O σ H S.unadd⟩
  · cases e
/-! ### while -/
def whL (t : FT) (b : FS) : Nat → FS
  | 0, _, _ => none
  | n + 1, env, x => match t env x with
    | some (true, x1) => match b env x1 with
      | some (.nx e2, x2) => whL t b n e2 x2
      | some (.ct e2, x2) => whL t b n e2 x2
      | some (.bk e2, x2) => some (.nx e2, x2)
      | some (.rt d, x2) => some (.rt d, x2)
      | none => none
    | some (false, x1) => some (.nx env, x1)
    | none => none
theorem ss_while {body : List Stmt} {t : FT} {fb : FS} (n : Nat) (hp : PassesOwn (model X.prog X.w) X.A X.env X.xe) (ht : ST X c t) (hb : SSs X body fb) : SS X (.While c body [] pos) (whL t fb n) := by
  refine ⟨PSw (ps_while hp ht.out hb.out) fun Dn σ H h => ?_⟩
  obtain ⟨g, O, env, x, r, x', S, e, k⟩ := h
  refine ⟨fun m σ H => ∃ O env x, FSt X.K g O σ H env x ∧ whL t fb m env x = some (r, x'), ⟨n, O, env, x, S, e⟩, fun m σ H hW => ?_⟩
  obtain ⟨O, env, x, S, e⟩ := hW
  cases m with
  | zero => unfold whL at e; cases e
  | succ m =>
    unfold whL at e
    split at e
    · rename_i x1 e1
      refine ⟨g, O, env, x, _, x1, S, e1, fun H1 S1 l1 => ?_⟩
      refine iteT ?_
      refine ⟨fun σ' H' => ∃ O env x, FSt X.K g O σ' H' env x ∧ whL t fb m env x = some (r, x'), fun σ' H' hN => ⟨m, Nat.lt_succ_self m, hN⟩, ?_⟩
      split at e
      · rename_i env2 x2 e3
        exact ⟨g, O, env, x1, _, x2, S1, e3, fun O' σ' H' S' => ⟨O', env2, x2, S', e⟩⟩
      · rename_i env2 x2 e3
        exact ⟨g, O, env, x1, _, x2, S1, e3, fun O' σ' H' S' => ⟨O', env2, x2, S', e⟩⟩
      · rename_i env2 x2 e3
        cases e
        exact ⟨g, O, env, x1, _, x', S1, e3, fun O' σ' H' S' => k O' σ' H' S'⟩
      · rename_i d x2 e3
        cases e
        exact ⟨g, O, env, x1, _, x', S1, e3, fun O' σ' H' v env' S' r' => k O' σ' H' v env' S' r'⟩
      · cases e
    · rename_i x1 e1
      cases e
      refine ⟨g, O, env, x, _, x', S, e1, fun H1 S1 l1 => ?_⟩
      refine iteF ?_
      exact k O σ H1 S1
    · cases e
/-! ### comprehensions -/
def compL (gt : FGt) (t : FT) (fe : FE) (env : FEn) : List D → FRow → Option (List D × FRow)
  | [], x => some ([], x)
  | d :: ds, x => match gt d env with
    | none => none
    | some e1 => match t e1 x with
      | some (true, x1) => match fe e1 x1 with
        | some (r, x2) => match compL gt t fe env ds x2 with
          | some (rs, x3) => some (r :: rs, x3)
          | none => none
        | none => none
      | some (false, x1) => compL gt t fe env ds x1
      | none => none
def xLc (f : FA) (gt : FGt) (t : FT) (fe : FE) (vs : List Nat) : FX := fun env x => match f env x with
  | some (ds, x1) => match compL gt t fe (wipeE env vs) ds x1 with
    | some (rs, x2) => if rs.length < maxLen then some (.ow (.lst rs), x2) else none
    | none => none
  | none => none
theorem lc_read {K : PySem.W.Frag} {f : FA} {gt : FGt} {t : FT} {fe : FE} {vs : List Nat} {σ : L2.St} {H : Hp} {Q : VK} (h : tX K (xLc f gt t fe vs) σ H Q) : tLc (tI K f) (tG K vs gt) (tT K t) (tE K fe) vs σ H Q := by
  obtain ⟨g, O, env, x, sl, x', S, e, k⟩ := h
  unfold xLc at e
  split at e
  · rename_i ds x1 e1
    split at e
    · rename_i rs x2 e2
      split at e
      · rename_i hl
        cases e
        refine ⟨g, O, env, x, ds, x1, S, e1, fun J more H1 S1 l1 wk p hp => ?_⟩
        have n1 := S1.newp hp
        have hp0 : H p = none := Le.gone l1 hp S1.unadd
        have hne : ∀ (j : Nat) d b, env[j]? = some (.ow d) → σ[j]? = some (some (.ref b)) → b ≠ p := fun j d b h1 h2 => own_ne S1 hp h1 h2
        refine ⟨fun i m H2 => m = ds.length - i ∧ i ≤ ds.length ∧ Le g H H2 ∧ ∃ x acc dn rest, FSt K (g.add more) (oAdd O p) σ H2 env x ∧ H2 p = some (.lst acc) ∧ RpA K (oAdd O p) H2 acc dn ∧ compL gt t fe (wipeE env vs) (ds.drop i) x = some (rest, x') ∧ dn ++ rest = rs,
          ⟨_, rfl, Nat.zero_le _, l1.trans (.of (same_upd hp)), x1, [], [], rs, S1.own hp True.intro, upd_same, .nil, e2, rfl⟩, fun i m H2 hW => ?_⟩
        obtain ⟨rfl, hil, lH, x, acc, dn, rest, S2, hacc, racc, e, er⟩ := hW
        obtain ⟨wgo, wst⟩ := wk _ σ H2 env x i S2
        by_cases hlt : i < ds.length
        · have hd : ds[i]? = some ds[i] := List.getElem?_eq_getElem hlt
          obtain ⟨go, yl⟩ := wgo _ hd
          rw [drop_get hd] at e
          refine .inr ⟨go, fun H2 => i + 1 ≤ ds.length ∧ Le g H H2 ∧ ∃ x acc dn rest, FSt K (g.add more) (oAdd O p) σ H2 env x ∧ H2 p = some (.lst acc) ∧ RpA K (oAdd O p) H2 acc dn ∧ compL gt t fe (wipeE env vs) (ds.drop (i + 1)) x = some (rest, x') ∧ dn ++ rest = rs,
            fun H' hN => ⟨ds.length - (i + 1), by omega, rfl, hN.1, hN.2⟩, fun v H3 hy => ?_⟩
          obtain ⟨sm, rv⟩ := yl v H3 hy
          unfold compL at e
          split at e
          · cases e
          · rename_i env1 e3
            have S3 := S2.same sm
            refine ⟨g.add more, oAdd O p, wipeE env vs, x, ds[i], env1, S3.wiped vs, rv, e3, fun σ1 w1 S4 => ⟨w1.trans (wipe_wipe σ vs), ?_⟩⟩
            split at e
            · rename_i xb e4
              split at e
              · rename_i r x3 e5
                split at e
                · rename_i rs' x4 e6
                  cases e
                  refine ⟨g.add more, oAdd O p, env1, x, _, xb, S4, e4, fun H5 S5 l5 => ?_⟩
                  refine iteT ?_
                  refine ⟨g.add more, oAdd O p, env1, xb, r, x3, S5, e5, fun y H6 S6 l6 r6 => ?_⟩
                  have l7 : Le (g.add more) H2 H6 := (Le.of sm).trans (l5.trans l6)
                  have S7 := S2.step l7 fun r hr => (S6.row r hr).2.2
                  have hacc' := l7 p _ n1.2 hacc
                  have ll : acc.length < maxLen := by
                    have := racc.length
                    have h2 : (dn ++ r :: rs').length = rs.length := by rw [er]
                    rw [List.length_append, List.length_cons] at h2
                    omega
                  refine ⟨acc, hacc', maxLen_lt ll, hlt, ?_, x3, acc ++ [y], dn ++ [r], rs', S7.upd1 (.inr rfl) n1.1 n1.2 True.intro hne, upd_same, ?_, e6, by rw [List.append_assoc]; exact er⟩
                  · intro c u hR e
                    have z : c ≠ p := fun z => by rw [z, hp0] at e; cases e
                    rw [upd_ne z]
                    exact l7 c u hR (lH c u hR e)
                  · exact ((racc.step S2 l7).app (.cons r6 .nil)).move (keep_own S7 (.inr rfl)) .refl
                · cases e
              · cases e
            · rename_i xb e4
              refine ⟨g.add more, oAdd O p, env1, x, _, xb, S4, e4, fun H5 S5 l5 => ?_⟩
              refine iteF ?_
              have l7 : Le (g.add more) H2 H5 := (Le.of sm).trans l5
              have S7 := S2.step l7 fun r hr => (S5.row r hr).2.2
              exact ⟨hlt, fun c u hR e => l7 c u hR (lH c u hR e), xb, acc, dn, rest, S7, l7 p _ n1.2 hacc, racc.step S2 l7, e, er⟩
            · cases e
        · have hi : i = ds.length := by omega
          rw [hi, List.drop_length] at e
          unfold compL at e
          cases e
          rw [List.append_nil] at er
          subst er
          refine .inl ⟨wst hi, k (oAdd O p) _ H2 S2.unadd lH (fun a z => z.elim .inl fun e => .inr (e ▸ hp0)) (fun a z => .inl z) (.ow (.inr rfl) n1.1 n1.2 ⟨acc, hacc, racc⟩) fun d z => ⟨p, rfl, hp0⟩⟩
      · cases e
    · cases e
  · cases e
structure STs (X : Cx) (es : List Expr) (f : FT) : Prop where
  out : PTs X es (tT X.K f)
theorem PTsw {es : List Expr} {t t' : TT} (h : PTs X es t) (q : ∀ σ H Q, t' σ H Q → t σ H Q) : PTs X es t' := ⟨fun pins s σ H Q I z => h.run pins s σ H Q I (q _ _ _ z)⟩
def tYesF : FT := fun _ x => some (true, x)
theorem sts_nil : STs X [] tYesF := ⟨PTsw pts_nil fun σ H Q h => by
  obtain ⟨g, O, env, x, d, x', S, e, k⟩ := h
  cases e
  exact k H S (Le.refl _ _)⟩
theorem sts_one {t : FT} (h : ST X c t) : STs X [c] t := ⟨pts_one h.out⟩
theorem sx_lc {elt tg iter : Expr} {ifs : List Expr} {scope : Scope} {own : List (Str × Nat)} {f : FA} {gt : FGt} {t : FT} {fe : FE} (hc : X.calm = true) (hN : X.N.Nodup) (hi : SI X tg iter f) (ok : BlkOk X.N X.env.scope scope own)
    (hg : ∀ (s : Shared) (H : Hp) (C : Addr) (cl : List (Str × Addr)) (fp : List Addr), SG (X.blk s H scope (compEnvC scope cl C X.env) fp) tg (own.map (·.2)) gt)
    (ht : ∀ (s : Shared) (H : Hp) (C : Addr) (cl : List (Str × Addr)) (fp : List Addr), STs (X.blk s H scope (compEnvC scope cl C X.env) fp) ifs t)
    (he : ∀ (s : Shared) (H : Hp) (C : Addr) (cl : List (Str × Addr)) (fp : List Addr), SE (X.blk s H scope (compEnvC scope cl C X.env) fp) elt fe) (hs : ∀ x, foldedSetIterable iter X.env x = pure x := by intro _; rfl) :
    SX X (.ListComp elt [⟨tg, iter, ifs, 0⟩] scope pos) (xLc f gt t fe (own.map (·.2))) :=
  ⟨PEw (pe_lc hc hN hi.out ok (fun s H C cl fp => (show PG _ tg (tG X.K (own.map (·.2)) gt) from (hg s H C cl fp).out)) (fun s H C cl fp => (show PTs _ ifs (tT X.K t) from (ht s H C cl fp).out)) (fun s H C cl fp => (show PE _ elt (tE X.K fe) from (he s H C cl fp).out)) hs) fun σ H Q h => lc_read h⟩
theorem ss_setLc {i : Nat} {y : Str} {py : Pos} {elt tg iter : Expr} {ifs : List Expr} {scope : Scope} {own : List (Str × Nat)} {cpos : Pos} {f : FA} {gt : FGt} {t : FT} {fe : FE} (hc : X.calm = true) (hN : X.N.Nodup) (hy : X.N[i]? = some y) (hyl : X.env.scope.names.lookup y = some .local)
    (hsw : swapsWith (.ListComp elt [⟨tg, iter, ifs, 0⟩] scope cpos) (some (.Name y py)) pos.line X.env = pure true) (hi : SI X tg iter f) (ok : BlkOk X.N X.env.scope scope own)
    (hg : ∀ (s : Shared) (H : Hp) (C : Addr) (cl : List (Str × Addr)) (fp : List Addr), SG (X.blk s H scope (compEnvC scope cl C X.env) fp) tg (own.map (·.2)) gt)
    (ht : ∀ (s : Shared) (H : Hp) (C : Addr) (cl : List (Str × Addr)) (fp : List Addr), STs (X.blk s H scope (compEnvC scope cl C X.env) fp) ifs t)
    (he : ∀ (s : Shared) (H : Hp) (C : Addr) (cl : List (Str × Addr)) (fp : List Addr), SE (X.blk s H scope (compEnvC scope cl C X.env) fp) elt fe) (hs : ∀ x, foldedSetIterable iter X.env x = pure x := by intro _; rfl)
    (tr : FX → FX) (htr : tr = id ∨ tr = fun f => xVal (fOfX f)) : SS X (.Assign [.Name y py] (.ListComp elt [⟨tg, iter, ifs, 0⟩] scope cpos) pos) (sSet i (tr (xLc f gt t fe (own.map (·.2))))) := by
  have main : ∀ fx : FX, (∀ σ H Q, tX X.K fx σ H Q → tLc (tI X.K f) (tG X.K (own.map (·.2)) gt) (tT X.K t) (tE X.K fe) (own.map (·.2)) σ H Q) → SS X (.Assign [.Name y py] (.ListComp elt [⟨tg, iter, ifs, 0⟩] scope cpos) pos) (sSet i fx) := fun fx hfx => by
    refine ⟨PSw (ps_setLc hc hN hy hyl hsw hi.out ok (fun s H C cl fp => (show PG _ tg (tG X.K (own.map (·.2)) gt) from (hg s H C cl fp).out)) (fun s H C cl fp => (show PTs _ ifs (tT X.K t) from (ht s H C cl fp).out)) (fun s H C cl fp => (show PE _ elt (tE X.K fe) from (he s H C cl fp).out)) hs) fun Dn σ H h => ?_⟩
    obtain ⟨g, O, env, x, r, x', S, e, k⟩ := h
    unfold sSet at e
    split at e
    · rename_i sl x1 e1
      cases e
      exact hfx σ H _ ⟨g, O, env, x, sl, x', S, e1, fun O' v H' S' l w sub r nw => k O' _ H' (S'.setv i r fun d z => by
        obtain ⟨p, e2, hp⟩ := nw d z
        exact ⟨p, e2, fun j d' b h1 h2 => own_ne S hp h1 h2⟩)⟩
    · cases e
  rcases htr with rfl | rfl
  · exact main _ fun σ H Q h => lc_read h
  · refine main _ fun σ H Q h => ?_
    obtain ⟨g, O, env, x, sl, x', S, e, k⟩ := h
    change (match fOfX (xLc f gt t fe (own.map (·.2))) env x with
      | some (d, x1) => some (FSl.va d, x1)
      | none => none) = some (sl, x') at e
    split at e
    · rename_i d x1 e1
      cases e
      unfold fOfX at e1
      split at e1
      · rename_i dd x1 e2
        unfold xLc at e2
        split at e2
        · split at e2
          · split at e2
            · cases e2
            · cases e2
          · cases e2
        · cases e2
      · rename_i dd x1 e2
        cases e1
        refine lc_read ⟨g, O, env, x, _, x', S, e2, fun O' v H' S' l w sub r nw => ?_⟩
        obtain ⟨p, rfl, hp⟩ := nw _ rfl
        have np := S.notO hp
        have wd : Wid O' O H' := fun a z => .inl (sub a z)
        cases r with
        | ow p1 q r t =>
          refine k O _ H' (S.shrink S' sub) l .refl (fun _ h => h) (.va ?_) fun d z => by cases z
          cases dd with
          | lst ds => obtain ⟨xs, e, r⟩ := t; exact .lst np e (r.move (fun _ _ _ e => e) wd)
          | dk ds => obtain ⟨xs, e, r⟩ := t; exact .dK np e (r.move (fun _ _ _ e => e) wd)
          | dt ds => obtain ⟨xs, e, r⟩ := t; exact .dT np e (r.move (fun _ _ _ e => e) wd)
      · cases e1
    · cases e
end
end RT

namespace RT
open PySem PySem.Spec PyProof.Rows L2
/-! ### what defs promise -/
def spF (K : PySem.W.Frag) (m : List D → Option D) : Sp := fun vs H Q _ => ∃ O ds d, (∀ a, O a → Mut (H a)) ∧ RpA K O H vs ds ∧ m ds = some d ∧ ∀ v H', Same H H' → Rp K O H' v d → Q v H'
def spR (K : PySem.W.Frag) (m : List D → FRow → Option (D × FRow)) : Sp := fun vs H Q _ => ∃ O r vs' ds x d x', (∀ a, O a → Mut (H a)) ∧ O r ∧ vs = .ref r :: vs' ∧ RowAt K H r x ∧ RpA K O H vs' ds ∧ m ds x = some (d, x') ∧
  ∀ v H', (∀ a o, a ≠ r → H a = some o → H' a = some o) → RowAt K H' r x' → Rp K O H' v d → Q v H'
def startE (n : Nat) (ds : List D) : FEn := ds.map FSl.va ++ List.replicate (n - ds.length) FSl.no
def row0 : FRow := ⟨[], 0, 0, 0⟩
def mkF (n k : Nat) (body : FS) : List D → Option D := fun ds => if ds.length = k then match body (startE n ds) row0 with
  | some (.rt d, _) => some d
  | some (.nx _, _) => some .none
  | _ => none
  else none
def mkR (n k : Nat) (body : FS) : List D → FRow → Option (D × FRow) := fun ds x => if ds.length = k then match body (.rw :: startE n ds) x with
  | some (.rt d, x') => some (d, x')
  | some (.nx _, x') => some (.none, x')
  | _ => none
  else none
section
variable {P : Program} {w : World} {K : PySem.W.Frag} {mg : Str → Option Value} {base : Heap}
theorem vas_at {K : PySem.W.Frag} {g : FG} {O : Addr → Prop} {H : Hp} {m : Nat} : ∀ {vs : List V} {ds : List D}, RpA K O H vs ds → ∀ (i : Nat) s e, (vs.map some ++ List.replicate m none)[i]? = some s → (ds.map FSl.va ++ List.replicate m FSl.no)[i]? = some e → SlOk K g O H s e
  | _, _, .nil, i, s, e, h1, h2 => by
    rw [List.map_nil, List.nil_append] at h1 h2
    have := (List.mem_replicate.mp (List.mem_of_getElem? h2)).2
    subst this
    exact .no _
  | _, _, .cons a b, 0, s, e, h1, h2 => by
    have e1 := Option.some.inj h1
    have e2 := Option.some.inj h2
    subst e1
    subst e2
    exact .va a
  | _, _, .cons a b, i + 1, s, e, h1, h2 => vas_at b i s e (by simpa using h1) (by simpa using h2)
theorem no_ow {m i : Nat} {w : OwD} : ∀ {ds : List D}, (ds.map FSl.va ++ List.replicate m FSl.no)[i]? ≠ some (.ow w) := fun {ds} h => by
  have h := List.mem_of_getElem? h
  rcases List.mem_append.mp h with h | h
  · obtain ⟨d, _, e⟩ := List.mem_map.mp h
    cases e
  · have := (List.mem_replicate.mp h).2
    cases this
theorem ok_fn {x qual : Str} {st : Stmt} {f : Addr} {fd : FuncData} {N ps : List Str} {k : Nat} {body : FS} (F : Fun K x qual st f fd) (S : FnScope N ps (defScope st))
    (h : ∀ (cdv : Value) (A : Around) (outer : List Env) (s : Shared) (H : Hp) (E : XK), Room k (A.deeper (envOfC qual (defScope st) s.heap.objs.size f cdv)) → SSs (cxOf CX0 P w K mg base N qual (defScope st) f cdv A outer s H E).nox (defBody st) body) :
    FnOk P w K mg base CX0 (k + 1) f fd ps (spF K (mkF N.length ps.length body)) := by
  refine F.ok S (fun vs H Q E h => ?_) (fun cdv A outer s H vs Q E hr hsp => ⟨tS K body, (h cdv A outer s H E hr).out, ?_⟩)
  · obtain ⟨O, ds, d, _, r, e, _⟩ := h
    unfold mkF at e
    split at e
    · rename_i hl
      rw [r.length, hl]
    · cases e
  · obtain ⟨O, ds, d, dom, r, e, q⟩ := hsp
    unfold mkF at e
    split at e
    · rename_i hl
      have S0 : FSt K ⟨O, H, none, []⟩ O (L2.start N vs) H (startE N.length ds) row0 := by
        refine ⟨fun _ h => h, fun _ h => .inl h, dom, Le.refl _ _, fun r e => (by cases e), ?_, fun i s e h1 h2 => ?_, fun i j d d' a b ne h1 h2 => absurd h1 no_ow, fun p hp => (by cases hp)⟩
        · unfold L2.start startE
          rw [List.length_append, List.length_append, List.length_map, List.length_map, List.length_replicate, List.length_replicate, r.length]
        · unfold L2.start at h1
          unfold startE at h2
          rw [r.length] at h1
          exact vas_at r i s e h1 h2
      have same : ∀ {O' : Addr → Prop} {σ' : L2.St} {H' : Hp} {env' : FEn} {x' : FRow}, FSt K ⟨O, H, none, []⟩ O' σ' H' env' x' → Same H H' := fun S' a o e => S'.le a o (fun z => by cases z) e
      split at e
      · rename_i d' x' e1
        cases e
        exact ⟨_, O, _, row0, _, _, S0, e1, fun O' σ' H' v env' S' rp => q v H' (same S') (rp.move (fun _ _ _ e => e) fun a z => .inl (S'.sub a z))⟩
      · rename_i d' x' e1
        cases e
        exact ⟨_, O, _, row0, _, _, S0, e1, fun O' σ' H' S' => q _ H' (same S') .non⟩
      · cases e
    · cases e
theorem ok_fnR {x qual : Str} {st : Stmt} {f : Addr} {fd : FuncData} {N ps : List Str} {k : Nat} {body : FS} (F : Fun K x qual st f fd) (S : FnScope N ps (defScope st)) (h0 : 0 < N.length) (h1 : 0 < ps.length)
    (h : ∀ (cdv : Value) (A : Around) (outer : List Env) (s : Shared) (H : Hp) (E : XK), Room k (A.deeper (envOfC qual (defScope st) s.heap.objs.size f cdv)) → SSs (cxOf CX0 P w K mg base N qual (defScope st) f cdv A outer s H E).nox (defBody st) body) :
    FnOk P w K mg base CX0 (k + 1) f fd ps (spR K (mkR (N.length - 1) (ps.length - 1) body)) := by
  refine F.ok S (fun vs H Q E h => ?_) (fun cdv A outer s H vs Q E hr hsp => ⟨tS K body, (h cdv A outer s H E hr).out, ?_⟩)
  · obtain ⟨O, r, vs', ds, x, d, x', _, _, rfl, _, r, e, _⟩ := h
    unfold mkR at e
    split at e
    · rename_i hl
      rw [List.length_cons, r.length, hl]
      omega
    · cases e
  · obtain ⟨O, ra, vs', ds, x, d, x', dom, ro, rfl, rat, r, e, q⟩ := hsp
    unfold mkR at e
    split at e
    · rename_i hl
      have hne : H ra ≠ none := by
        obtain ⟨a0, e, _⟩ := rat
        rw [e]
        exact fun z => by cases z
      have S0 : FSt K ⟨O, H, some ra, []⟩ O (L2.start N (.ref ra :: vs')) H (.rw :: startE (N.length - 1) ds) x := by
        refine ⟨fun _ h => h, fun _ h => .inl h, dom, Le.refl _ _, fun r e => (by cases e; exact ⟨ro, hne, rat⟩), ?_, fun i s e h1 h2 => ?_, fun i j d d' a b ne h1 h2 => ?_, fun p hp => (by cases hp)⟩
        · unfold L2.start startE
          simp only [List.length_append, List.length_cons, List.length_map, List.length_replicate, r.length]
          omega
        · unfold L2.start at h1
          unfold startE at h2
          cases i with
          | zero =>
            have e1 := Option.some.inj h1
            have e2 := Option.some.inj h2
            subst e1
            subst e2
            exact .rw rfl
          | succ i =>
            have e3 : N.length - (V.ref ra :: vs').length = N.length - 1 - ds.length := by
              rw [List.length_cons, r.length]
              omega
            rw [e3] at h1
            exact vas_at r i s e (by simpa using h1) (by simpa using h2)
        · unfold startE at h1
          cases i with
          | zero => have e1 := Option.some.inj h1; cases e1
          | succ i => exact absurd (show (ds.map FSl.va ++ List.replicate (N.length - 1 - ds.length) FSl.no)[i]? = _ by simpa using h1) no_ow
      have same : ∀ {O' : Addr → Prop} {σ' : L2.St} {H' : Hp} {env' : FEn} {x' : FRow}, FSt K ⟨O, H, some ra, []⟩ O' σ' H' env' x' → (∀ a o, a ≠ ra → H a = some o → H' a = some o) := fun S' a o n e => S'.le a o (fun z => n (Option.some.inj z).symm) e
      split at e
      · rename_i d' x' e1
        cases e
        exact ⟨_, O, _, x, _, _, S0, e1, fun O' σ' H' v env' S' rp => q v H' (same S') (S'.row ra rfl).2.2 (rp.move (fun _ _ _ e => e) fun a z => .inl (S'.sub a z))⟩
      · rename_i d' x' e1
        cases e
        exact ⟨_, O, _, x, _, _, S0, e1, fun O' σ' H' S' => q _ H' (same S') (S'.row ra rfl).2.2 .non⟩
      · cases e
    · cases e
/-- a def that may be called -/
structure Callee (P : Program) (w : World) (K : PySem.W.Frag) (mg : Str → Option Value) (base : Heap) (k : Nat) (n : Str) (sp : Sp) : Prop where
  ex : ∃ (f : Addr) (fd : FuncData) (ps : List Str), FnOk P w K mg base CX0 k f fd ps sp ∧ mg n = some (.ref f) ∧ PySem.W.keepIn K (.ref f) = true ∧ Binds K fd ps []
theorem Callee.mono {k j : Nat} {n : Str} {sp : Sp} (c : Callee P w K mg base k n sp) (h : k ≤ j) : Callee P w K mg base j n sp := by
  obtain ⟨f, fd, ps, a, b, c, d⟩ := c.ex
  exact ⟨f, fd, ps, a.mono h, b, c, d⟩
end
section
variable {X : Cx} {a b c e : Expr} {es : List Expr} {fa fb fc f : FE} {pos : Pos}
def fCall (m : List D → Option D) (fa : FA) : FE := fun env x => match fa env x with
  | some (ds, x1) => match m ds with
    | some d => some (d, x1)
    | none => none
  | none => none
theorem se_call {k : Nat} {n : Str} {p : Pos} {m : List D → Option D} {fa : FA} (c : Callee X.prog X.w X.K X.mg X.base k n (spF X.K m)) (hr : Room k X.A) (hg : Gl X n) (ha : SA X (e :: es) fa) (hdb : (n == ("__debug__" : Str)) = false := by decide)
    (he : starEach (e :: es) X.env = (false, eval e X.env) :: starEach es X.env := by rfl) (hpl : (backTo pos (starEach es X.env)).any (·.1) = false := by rfl) : SE X (.Call (.Name n p) (e :: es) [] pos) (fCall m fa) := by
  obtain ⟨f, fd, ps, F, hm, hk, hb⟩ := c.ex
  refine ⟨PEw (pe_call F hr hg hm hk hb .nil pass0 ha.out hdb he hpl) fun σ H Q h => ?_⟩
  obtain ⟨g, O, env, x, d, x', S, e, k⟩ := h
  unfold fCall at e
  split at e
  · rename_i ds x1 e1
    split at e
    · rename_i d1 e2
      cases e
      refine ⟨g, O, env, x, ds, x', S, e1, fun vs H1 S1 l1 r1 => ?_⟩
      show spF X.K m (vs ++ []) H1 Q E0
      rw [List.append_nil]
      exact ⟨O, ds, d, S1.dom, r1, e2, fun v H2 sm r2 => k v H2 (S1.same sm) (l1.trans (.of sm)) r2⟩
    · cases e
  · cases e
def fCallR (i : Nat) (m : List D → FRow → Option (D × FRow)) (fa : FA) : FE := fun env x => match env[i]? with
  | some .rw => match fa env x with
    | some (ds, x1) => m ds x1
    | none => none
  | _ => none
theorem se_callR {k i : Nat} {n r : Str} {p p1 : Pos} {m : List D → FRow → Option (D × FRow)} {fa : FA} (c : Callee X.prog X.w X.K X.mg X.base k n (spR X.K m)) (hr : Room k X.A) (hg : Gl X n) (ha : SA X es fa) (hdb : (n == ("__debug__" : Str)) = false := by decide)
    (he : starEach (.Name r p1 :: es) X.env = (false, eval (.Name r p1) X.env) :: starEach es X.env := by rfl) (hpl : (backTo pos (starEach es X.env)).any (·.1) = false := by rfl)
    (hN : X.N[i]? = some r := by rfl) (hvis : Vis X.env.scope r := by first | exact Or.inl rfl | exact Or.inr (Or.inl rfl) | exact Or.inr (Or.inr rfl)) (hd : (r == ("__debug__" : Str)) = false := by decide)
    (hcd : (r == ("__classdict__" : Str)) = false := by decide) : SE X (.Call (.Name n p) (.Name r p1 :: es) [] pos) (fCallR i m fa) := by
  obtain ⟨f, fd, ps, F, hm, hk, hb⟩ := c.ex
  refine ⟨PEw (pe_call F hr hg hm hk hb .nil pass0 (pa_cons (pe_var hN hvis hd hcd) ha.out he) hdb he hpl) fun σ H Q h => ?_⟩
  obtain ⟨g, O, env, x, d, x', S, e, k⟩ := h
  unfold fCallR at e
  split at e
  · rename_i e0
    split at e
    · rename_i ds x1 e1
      obtain ⟨s, e5, q5⟩ := S.at e0
      cases q5 with
      | @rw ra hR =>
        refine ⟨_, e5, g, O, env, x, ds, x1, S, e1, fun vs H1 S1 l1 r1 => ?_⟩
        show spR X.K m ((.ref ra :: vs) ++ []) H1 Q E0
        rw [List.append_nil]
        obtain ⟨q1, q2, q3⟩ := S1.row ra hR
        refine ⟨O, ra, vs, ds, x1, d, x', S1.dom, S1.sub _ q1, rfl, q3, r1, e, fun v H2 kp rt r2 => ?_⟩
        have l2 : Le g H1 H2 := fun a o n e => kp a o (fun z => n (by rw [z]; exact hR)) e
        exact k v H2 (S1.step l2 fun r hr => by rw [hR] at hr; cases hr; exact rt) (l1.trans l2) r2
    · cases e
  · cases e
/-! ### the row -/
def fRow (i : Nat) (k : Int) : FE := fun env x => match env[i]? with
  | some .rw => if k = 1 then some (.int x.a, x) else if k = 2 then some (.int x.b, x) else if k = 3 then some (.int x.c, x) else none
  | _ => none
theorem se_row {i j : Nat} {k : Int} {n : Str} {p p1 : Pos} (hN : X.N[i]? = some n := by rfl) (hvis : Vis X.env.scope n := by first | exact Or.inl rfl | exact Or.inr (Or.inl rfl) | exact Or.inr (Or.inr rfl)) (hd : (n == ("__debug__" : Str)) = false := by decide)
    (hcd : (n == ("__classdict__" : Str)) = false := by decide) : SE X (.Subscript (.Name n p) (.Constant (.int k) j p1) pos) (fRow i k) := by
  refine ⟨PEw (pe_ix ix_list (pe_var hN hvis hd hcd) pe_int (fun _ _ => rfl)) fun σ H Q h => ?_⟩
  obtain ⟨g, O, env, x, d, x', S, e, kk⟩ := h
  unfold fRow at e
  split at e
  · rename_i e0
    obtain ⟨s, e5, q5⟩ := S.at e0
    cases q5 with
    | @rw ra hR =>
      obtain ⟨q1, q2, a0, q3, q4⟩ := S.row ra hR
      split at e
      · rename_i hk
        cases e
        subst hk
        exact ⟨_, e5, ra, _, 1, _, rfl, rfl, .of q3, rfl, kk _ _ S (Le.refl _ _) (.int _)⟩
      · split at e
        · rename_i hk
          cases e
          subst hk
          exact ⟨_, e5, ra, _, 2, _, rfl, rfl, .of q3, rfl, kk _ _ S (Le.refl _ _) (.int _)⟩
        · split at e
          · rename_i hk
            cases e
            subst hk
            exact ⟨_, e5, ra, _, 3, _, rfl, rfl, .of q3, rfl, kk _ _ S (Le.refl _ _) (.int _)⟩
          · cases e
  · cases e
theorem RowAt.seq {K : PySem.W.Frag} {H : Hp} {r : Addr} {x : FRow} (h : RowAt K H r x) : ∃ a0, H r = some (.lst [.ref a0, .int x.a, .int x.b, .int x.c]) ∧ SqL K H a0 (x.ns.map V.int) := by
  obtain ⟨a0, e, q⟩ := h
  refine ⟨a0, e, ?_⟩
  rcases q with ⟨o, q⟩ | q
  · exact .inl (.inr ⟨o, q⟩)
  · rcases q with (q | ⟨o, q⟩) | q
    · cases q
    · cases q
    · exact .inr q
/-- len(row[0]) -/
def fRowLen (i : Nat) : FE := fun env x => match env[i]? with
  | some .rw => some (.int x.ns.length, x)
  | _ => none
theorem se_rowlen {i j : Nat} {n : Str} {p p0 p1 p2 : Pos} (hg : Gl X "len") (hm : X.mg "len" = none) (hN : X.N[i]? = some n := by rfl) (hvis : Vis X.env.scope n := by first | exact Or.inl rfl | exact Or.inr (Or.inl rfl) | exact Or.inr (Or.inr rfl)) (hd : (n == ("__debug__" : Str)) = false := by decide)
    (hcd : (n == ("__classdict__" : Str)) = false := by decide)
    (hs : starEach [.Subscript (.Name n p) (.Constant (.int 0) j p1) p2] X.env = (false, eval (.Subscript (.Name n p) (.Constant (.int 0) j p1) p2) X.env) :: starEach [] X.env := by rfl) : SE X (.Call (.Name "len" p0) [.Subscript (.Name n p) (.Constant (.int 0) j p1) p2] [] pos) (fRowLen i) := by
  refine ⟨PEw (pe_callB call_len_seq hg hm PySem.boot_len (pa_cons (pe_ix ix_list (pe_var hN hvis hd hcd) pe_int (fun _ _ => rfl)) pa_nil hs) (by decide) (by decide) hs) fun σ H Q h => ?_⟩
  obtain ⟨g, O, env, x, d, x', S, e, kk⟩ := h
  unfold fRowLen at e
  split at e
  · rename_i e0
    cases e
    obtain ⟨s, e5, q5⟩ := S.at e0
    cases q5 with
    | @rw ra hR =>
      obtain ⟨a0, q3, q4⟩ := (S.row ra hR).2.2.seq
      refine ⟨_, e5, ra, _, 0, _, rfl, rfl, .of q3, rfl, a0, _, rfl, .inl q4, ?_⟩
      rw [List.length_map]
      exact kk _ _ S (Le.refl _ _) (.int _)
  · cases e
/-- row[0][e] -/
def fRowAt (i : Nat) (f : FE) : FE := fun env x => match env[i]? with
  | some .rw => match f env x with
    | some (.int k, x1) => match atI x.ns k with
      | some z => some (.int z, x1)
      | none => none
    | _ => none
  | _ => none
theorem atI_map {α β : Type} {f : α → β} {l : List α} {i : Int} {z : α} (h : atI l i = some z) : atI (l.map f) i = some (f z) := by
  unfold atI at h ⊢
  rw [List.length_map]
  cases q : ixN l.length i with
  | none => rw [q] at h; cases h
  | some j =>
    rw [q] at h
    show (l.map f)[j]? = some (f z)
    have h : l[j]? = some z := h
    rw [List.getElem?_map, h]
    rfl
theorem se_rowat {i j : Nat} {n : Str} {f : FE} {p p1 p2 : Pos} (hb : SE X b f) (hs : PlainIx b := by exact fun _ _ => rfl) (hN : X.N[i]? = some n := by rfl) (hvis : Vis X.env.scope n := by first | exact Or.inl rfl | exact Or.inr (Or.inl rfl) | exact Or.inr (Or.inr rfl)) (hd : (n == ("__debug__" : Str)) = false := by decide)
    (hcd : (n == ("__classdict__" : Str)) = false := by decide) : SE X (.Subscript (.Subscript (.Name n p) (.Constant (.int 0) j p1) p2) b pos) (fRowAt i f) := by
  refine ⟨PEw (pe_ix ix_list (pe_ix ix_list (pe_var hN hvis hd hcd) pe_int (fun _ _ => rfl)) hb.out hs) fun σ H Q h => ?_⟩
  obtain ⟨g, O, env, x, d, x', S, e, kk⟩ := h
  unfold fRowAt at e
  split at e
  · rename_i e0
    split at e
    · rename_i k x1 e1
      split at e
      · rename_i z e2
        cases e
        obtain ⟨s, e5, q5⟩ := S.at e0
        cases q5 with
        | @rw ra hR =>
          obtain ⟨a0, q3, q4⟩ := (S.row ra hR).2.2
          refine ⟨_, e5, ra, _, 0, _, rfl, rfl, .of q3, rfl, g, O, env, x, _, x', S, e1, fun v H1 S1 l1 r1 => ?_⟩
          cases r1
          have nra : g.R ≠ some a0 ∨ SqL X.K (fun _ => none) a0 (x.ns.map V.int) := by
            rcases q4 with ⟨o, q4⟩ | q4
            · refine .inl fun z => ?_
              rw [hR] at z
              cases z
              rw [q3] at q4; cases q4
            · exact .inr q4
          refine ⟨a0, x.ns.map V.int, k, _, rfl, rfl, ?_, atI_map e2, kk _ _ S1 l1 (.int _)⟩
          rcases nra with nra | q5
          · rcases q4 with ⟨o, q4⟩ | q4
            · exact .inl (.inr ⟨o, l1 a0 _ nra q4⟩)
            · rcases q4 with (q4 | ⟨o, q4⟩) | q4
              · cases q4
              · cases q4
              · exact .inr q4
          · rcases q5 with (q5 | ⟨o, q5⟩) | q5
            · cases q5
            · cases q5
            · exact .inr q5
      · cases e
    · cases e
  · cases e
end
end RT

namespace RT
open PySem PySem.Spec PyProof.Rows L2
/-! ### built-ins, by borrowed arguments -/
def tBs (K : PySem.W.Frag) (f : FA) : TA := fun σ H Q => ∃ g O env x d x', FSt K g O σ H env x ∧ f env x = some (d, x') ∧
  ∀ v H', FSt K g O σ H' env x' → Le g H H' → Paired (RpB K g O H') v d → Q v H'
structure SBs (X : Cx) (e : List Expr) (f : FA) : Prop where
  out : PA X e (tBs X.K f)
section
variable {X : Cx} {a b c e : Expr} {es : List Expr} {fa fb fc f : FE} {pos : Pos}
theorem sbs_nil : SBs X [] aNil := by
  refine ⟨PAw pa_nil fun σ H Q h => ?_⟩
  obtain ⟨g, O, env, x, d, x', S, e, k⟩ := h
  cases e
  exact k _ _ S (Le.refl _ _) .nil
theorem sbs_cons {f : FE} {t : FA} (h : SB X e f) (ht : SBs X es t) (hs : starEach (e :: es) X.env = (false, eval e X.env) :: starEach es X.env := by rfl) : SBs X (e :: es) (aCons f t) := by
  refine ⟨PAw (pa_cons h.out ht.out hs) fun σ H Q h => ?_⟩
  obtain ⟨g, O, env, x, d, x', S, e, k⟩ := h
  unfold aCons at e
  split at e
  · rename_i d1 x1 e1
    split at e
    · rename_i ds x2 e2
      cases e
      refine ⟨g, O, env, x, d1, x1, S, e1, fun v H1 S1 l1 r1 => ?_⟩
      refine ⟨g, O, env, x1, ds, x', S1, e2, fun vs H2 S2 l2 r2 => ?_⟩
      exact k _ _ S2 (l1.trans l2) (.cons (RpB.step S1 l2 r1) r2)
    · cases e
  · cases e
def CallD (X : Cx) (f : Value) (gd : List D → Option D) : Prop :=
  CallR X f fun vs H Q => ∃ g O σ env x ds r, FSt X.K g O σ H env x ∧ Paired (RpB X.K g O H) vs ds ∧ gd ds = some r ∧ ∀ u H', Same H H' → Rp X.K O H' u r → Q u H'
theorem CallD.by {f : Value} {r : List V → Hp → VK → Prop} {gd : List D → Option D} (h : CallR X f r)
    (q : ∀ g O σ env x ds z H vs Q, FSt X.K g O σ H env x → Paired (RpB X.K g O H) vs ds → gd ds = some z → (∀ u H', Same H H' → Rp X.K O H' u z → Q u H') → r vs H Q) : CallD X f gd := by
  intro pins s σ H vs us Q I rv h2
  obtain ⟨g, O, σ', env, x, ds, z, S, rr, e, k⟩ := h2
  exact h pins s σ H vs us Q I rv (q _ _ _ _ _ _ _ _ _ _ S rr e k)
theorem se_callB {id : String} {n : Str} {p : Pos} {gd : List D → Option D} {fa : FA} (hc : CallD X (.builtin id) gd) (hg : Gl X n) (hm : X.mg n = none) (hv : bootBuiltins n = some (.builtin id)) (ha : SBs X (e :: es) fa) (hn : n ≠ "__name__" := by decide) (hdb : (n == ("__debug__" : Str)) = false := by decide)
    (he : starEach (e :: es) X.env = (false, eval e X.env) :: starEach es X.env := by rfl) (hpl : (backTo pos (starEach es X.env)).any (·.1) = false := by rfl) : SE X (.Call (.Name n p) (e :: es) [] pos) (fCall gd fa) := by
  refine ⟨PEw (pe_callB hc hg hm hv ha.out hn hdb he hpl) fun σ H Q h => ?_⟩
  obtain ⟨g, O, env, x, d, x', S, e, k⟩ := h
  unfold fCall at e
  split at e
  · rename_i ds x1 e1
    split at e
    · rename_i d1 e2
      cases e
      exact ⟨g, O, env, x, ds, x', S, e1, fun vs H1 S1 l1 r1 => ⟨g, O, σ, env, x', ds, d, S1, r1, e2, fun u H2 sm r2 => k u H2 (S1.same sm) (l1.trans (.of sm)) r2⟩⟩
    · cases e
  · cases e
theorem se_callTy {T : String} {n : Str} {p : Pos} {gd : List D → Option D} {fa : FA} (hc : CallD X (.type T) gd) (hg : Gl X n) (hm : X.mg n = none) (hv : bootBuiltins n = some (.type T)) (ha : SBs X (e :: es) fa) (hn : n ≠ "__name__" := by decide) (hdb : (n == ("__debug__" : Str)) = false := by decide)
    (he : starEach (e :: es) X.env = (false, eval e X.env) :: starEach es X.env := by rfl) (hpl : (backTo pos (starEach es X.env)).any (·.1) = false := by rfl) : SE X (.Call (.Name n p) (e :: es) [] pos) (fCall gd fa) := by
  refine ⟨PEw (pe_callTy hc hg hm hv ha.out hn hdb he hpl) fun σ H Q h => ?_⟩
  obtain ⟨g, O, env, x, d, x', S, e, k⟩ := h
  unfold fCall at e
  split at e
  · rename_i ds x1 e1
    split at e
    · rename_i d1 e2
      cases e
      exact ⟨g, O, env, x, ds, x', S, e1, fun vs H1 S1 l1 r1 => ⟨g, O, σ, env, x', ds, d, S1, r1, e2, fun u H2 sm r2 => k u H2 (S1.same sm) (l1.trans (.of sm)) r2⟩⟩
    · cases e
  · cases e
def gLen : List D → Option D
  | [.list ds] => some (.int ds.length)
  | [.tuple ds] => some (.int ds.length)
  | [.dict ds] => some (.int ds.length)
  | [.dictT ds] => some (.int ds.length)
  | _ => none
theorem cd_len : CallD X (.builtin "len") gLen := by
  refine CallD.by ((call_len_seq.or call_lenD).or call_len_dT) fun g O σ env x ds z H vs Q S r e k => ?_
  unfold gLen at e
  split at e
  · cases e
    cases r with
    | cons r r' =>
      cases r'
      obtain ⟨p, xs, rfl, q, rx⟩ := r.lst
      refine .inl (.inl ⟨p, xs, rfl, .inl (.of q), ?_⟩)
      rw [rx.length]
      exact k _ _ (Same.refl _) (.int _)
  · cases e
    cases r with
    | cons r r' =>
      cases r'
      obtain ⟨p, xs, rfl, q, rx⟩ := r.tup.tupAt
      refine .inl (.inl ⟨p, xs, rfl, .inr (.of q), ?_⟩)
      rw [rx.length]
      exact k _ _ (Same.refl _) (.int _)
  · cases e
    cases r with
    | cons r r' =>
      cases r'
      obtain ⟨p, xs, rfl, q, rx⟩ := r.dct
      refine .inl (.inr ⟨p, xs, rfl, q, ?_⟩)
      rw [rx.length]
      exact k _ _ (Same.refl _) (.int _)
  · cases e
    cases r with
    | cons r r' =>
      cases r'
      obtain ⟨p, xs, rfl, q, rx⟩ := r.dcT
      refine .inr ⟨p, xs, rfl, q, ?_⟩
      rw [rx.length]
      exact k _ _ (Same.refl _) (.int _)
  · cases e
def gTupOf : List D → Option D
  | [.list ds] => some (.tuple ds)
  | [.tuple ds] => some (.tuple ds)
  | _ => none
theorem cd_tuple : CallD X (.type "tuple") gTupOf := by
  refine CallD.by call_tuple_of fun g O σ env x ds z H vs Q S r e k => ?_
  unfold gTupOf at e
  split at e
  · cases e
    cases r with
    | cons r r' =>
      cases r'
      obtain ⟨p, xs, rfl, q, rx⟩ := r.lst
      refine ⟨p, xs, rfl, .inl ⟨.of q, fun l hl => ?_⟩⟩
      have sm := same_upd (o := .tup xs) hl
      exact k _ _ sm (.tup (S.notO hl) upd_same (rx.move (.of sm) .refl))
  · cases e
    cases r with
    | cons r r' =>
      cases r'
      obtain ⟨p, xs, rfl, q, rx⟩ := r.tup.tupAt
      exact ⟨p, xs, rfl, .inr ⟨.of q, k _ _ (Same.refl _) r.tup⟩⟩
  · cases e
def gListOf : List D → Option D
  | [.list ds] => some (.list ds)
  | [.tuple ds] => some (.list ds)
  | [.dict ds] => some (.list (ds.map (·.1)))
  | [.dictT ds] => some (.list (ds.map (·.1)))
  | _ => none
theorem keys_rp {K : PySem.W.Frag} {O : Addr → Prop} {H : Hp} : ∀ {kvs : List (L2.Key × V)} {ds : List (D × D)}, RpK K O H kvs ds → RpA K O H (kvs.map fun kv => kV kv.1) (ds.map (·.1))
  | _, _, .nil => .nil
  | _, _, .cons (k := k) a b => .cons (by cases k with
    | inl i => exact .int i
    | inr s => exact .str s) (keys_rp b)
theorem kVs_rp {K : PySem.W.Frag} {O : Addr → Prop} {H : Hp} : ∀ ks : List L2.Key, RpA K O H (ks.map kV) (ks.map keyD)
  | [] => .nil
  | k :: ks => .cons (by cases k with
    | inl i => exact .int i
    | inr s => exact .str s) (kVs_rp ks)
theorem keysT_rp {K : PySem.W.Frag} {g : FG} {O : Addr → Prop} {H : Hp} {σ : L2.St} {env : FEn} {x : FRow} (S : FSt K g O σ H env x) : ∀ {kvs : List (List L2.Key × V)} {ds : List (D × D)} {bs : List Addr}, RpT K O H kvs ds → IsKeys H kvs bs → RpA K O H (bs.map V.ref) (ds.map (·.1))
  | _, _, _, .nil, .nil => .nil
  | _, _, _, .cons (k := k) a b, .cons q qs => .cons (.tup (fun z => by
      have m := S.dom _ z
      rw [q] at m
      exact m) q (kVs_rp k)) (keysT_rp S b qs)
theorem cd_list (hc : X.calm = true) : CallD X (.type "list") gListOf := by
  refine CallD.by ((call_list_of.or (call_list_dK hc)).or (call_list_dT hc)) fun g O σ env x ds z H vs Q S r e k => ?_
  unfold gListOf at e
  split at e
  · cases e
    cases r with
    | cons r r' =>
      cases r'
      obtain ⟨p, xs, rfl, q, rx⟩ := r.lst
      refine .inl (.inl ⟨p, xs, rfl, .inl (.of q), fun l hl => ?_⟩)
      have sm := same_upd (o := .lst xs) hl
      exact k _ _ sm (.lst (S.notO hl) upd_same (rx.move (.of sm) .refl))
  · cases e
    cases r with
    | cons r r' =>
      cases r'
      obtain ⟨p, xs, rfl, q, rx⟩ := r.tup.tupAt
      refine .inl (.inl ⟨p, xs, rfl, .inr (.of q), fun l hl => ?_⟩)
      have sm := same_upd (o := .lst xs) hl
      exact k _ _ sm (.lst (S.notO hl) upd_same (rx.move (.of sm) .refl))
  · cases e
    cases r with
    | cons r r' =>
      cases r'
      obtain ⟨p, xs, rfl, q, rx⟩ := r.dct
      refine .inl (.inr ⟨p, xs, rfl, q, fun l hl => ?_⟩)
      have sm := same_upd (o := .lst (xs.map fun kv => kV kv.1)) hl
      exact k _ _ sm (.lst (S.notO hl) upd_same ((keys_rp rx).move (.of sm) .refl))
  · cases e
    cases r with
    | cons r r' =>
      cases r'
      obtain ⟨p, xs, rfl, q, rx⟩ := r.dcT
      refine .inr ⟨p, xs, rfl, .inl q, fun l bs hl hk => ?_⟩
      have sm := same_upd (o := .lst (bs.map V.ref)) hl
      exact k _ _ sm (.lst (S.notO hl) upd_same ((keysT_rp S rx hk).move (.of sm) .refl))
  · cases e
def bools : List D → Option (List Bool)
  | [] => some []
  | .bool b :: ds => match bools ds with
    | some bs => some (b :: bs)
    | none => none
  | _ => none
theorem bools_ok : ∀ {ds : List D} {bs : List Bool}, bools ds = some bs → ds = bs.map .bool
  | [], _, h => by cases h; rfl
  | d :: ds, bs, h => by
    unfold bools at h
    split at h
    · rename_i e1; cases e1
    · rename_i e1
      cases e1
      split at h
      · rename_i q
        cases h
        rw [bools_ok q]
        rfl
      · cases h
    · cases h
def intsD : List D → Option (List Int)
  | [] => some []
  | .int b :: ds => match intsD ds with
    | some bs => some (b :: bs)
    | none => none
  | _ => none
theorem ints_ok : ∀ {ds : List D} {bs : List Int}, intsD ds = some bs → ds = bs.map .int
  | [], _, h => by cases h; rfl
  | d :: ds, bs, h => by
    unfold intsD at h
    split at h
    · rename_i e1; cases e1
    · rename_i e1
      cases e1
      split at h
      · rename_i q
        cases h
        rw [ints_ok q]
        rfl
      · cases h
    · cases h
theorem ints_map : ∀ ns : List Int, intsD (ns.map .int) = some ns
  | [] => rfl
  | n :: ns => by simp only [List.map_cons, intsD, ints_map ns]
def gAll : List D → Option D
  | [.list ds] => match bools ds with
    | some bs => some (.bool (bs.all id))
    | none => none
  | _ => none
def gAny : List D → Option D
  | [.list ds] => match bools ds with
    | some bs => some (.bool (bs.any id))
    | none => none
  | _ => none
theorem cd_all (hc : X.calm = true) : CallD X (.builtin "all") gAll := by
  refine CallD.by (cr_all hc) fun g O σ env x ds z H vs Q S r e k => ?_
  unfold gAll at e
  split at e
  · split at e
    · rename_i ds bs q
      cases e
      cases r with
      | cons r r' =>
        cases r'
        obtain ⟨p, xs, rfl, hp, rx⟩ := r.lst
        rw [bools_ok q] at rx
        rw [rx.bls] at hp
        exact ⟨p, bs, rfl, .of hp, k _ _ (Same.refl _) (.bl _)⟩
    · cases e
  · cases e
theorem cd_any (hc : X.calm = true) : CallD X (.builtin "any") gAny := by
  refine CallD.by (cr_any hc) fun g O σ env x ds z H vs Q S r e k => ?_
  unfold gAny at e
  split at e
  · split at e
    · rename_i ds bs q
      cases e
      cases r with
      | cons r r' =>
        cases r'
        obtain ⟨p, xs, rfl, hp, rx⟩ := r.lst
        rw [bools_ok q] at rx
        rw [rx.bls] at hp
        exact ⟨p, bs, rfl, .of hp, k _ _ (Same.refl _) (.bl _)⟩
    · cases e
  · cases e
def gInt : List D → Option D
  | [.int i] => some (.int i)
  | [.bool b] => some (.int (if b then 1 else 0))
  | _ => none
theorem cd_int : CallD X (.type "int") gInt := by
  refine CallD.by call_int1 fun g O σ env x ds z H vs Q S r e k => ?_
  unfold gInt at e
  split at e
  · cases e
    cases r with
    | cons r r' =>
      cases r'
      exact .inl ⟨_, by rw [r.int], k _ _ (Same.refl _) (.int _)⟩
  · cases e
    cases r with
    | cons r r' =>
      cases r'
      exact .inr ⟨_, by rw [r.bl], k _ _ (Same.refl _) (.int _)⟩
  · cases e
/-! ### sorted, of intsD -/
def insI (n : Int) : List Int → List Int
  | [] => [n]
  | m :: ms => if n ≤ m then n :: m :: ms else m :: insI n ms
def sortI : List Int → List Int
  | [] => []
  | n :: ns => insI n (sortI ns)
theorem insI_perm (n : Int) : ∀ ms : List Int, (insI n ms).Perm (n :: ms)
  | [] => .refl _
  | m :: ms => by
    unfold insI
    split
    · exact .refl _
    · exact ((insI_perm n ms).cons m).trans (.swap n m ms)
theorem sortI_perm : ∀ ns : List Int, (sortI ns).Perm ns
  | [] => .refl _
  | n :: ns => (insI_perm n _).trans ((sortI_perm ns).cons n)
theorem insI_sorted (n : Int) : ∀ ms : List Int, ms.Pairwise (· ≤ ·) → (insI n ms).Pairwise (· ≤ ·)
  | [], _ => by simp [insI]
  | m :: ms, h => by
    unfold insI
    have h' := List.pairwise_cons.mp h
    split
    · rename_i hn
      refine List.pairwise_cons.mpr ⟨fun a ha => ?_, h⟩
      rcases List.mem_cons.mp ha with rfl | ha
      · exact hn
      · exact Int.le_trans hn (h'.1 a ha)
    · rename_i hn
      refine List.pairwise_cons.mpr ⟨fun a ha => ?_, insI_sorted n ms h'.2⟩
      rcases List.mem_cons.mp ((insI_perm n ms).mem_iff.mp ha) with rfl | ha
      · omega
      · exact h'.1 a ha
theorem sortI_sorted : ∀ ns : List Int, (sortI ns).Pairwise (· ≤ ·)
  | [] => .nil
  | n :: ns => insI_sorted n _ (sortI_sorted ns)
theorem sorted_uniq : ∀ {l m : List Int}, l.Perm m → l.Pairwise (· ≤ ·) → m.Pairwise (· ≤ ·) → l = m
  | [], m, h, _, _ => h.nil_eq
  | x :: l, [], h, _, _ => absurd h.length_eq (by simp)
  | x :: l, y :: m, h, hl, hm => by
    have hl' := List.pairwise_cons.mp hl
    have hm' := List.pairwise_cons.mp hm
    have e : x = y := by
      have h1 : y ≤ x := by
        rcases List.mem_cons.mp (h.mem_iff.mp List.mem_cons_self) with e | e
        · omega
        · exact hm'.1 x e
      have h2 : x ≤ y := by
        rcases List.mem_cons.mp (h.mem_iff.mpr List.mem_cons_self) with e | e
        · omega
        · exact hl'.1 y e
      omega
    subst e
    rw [sorted_uniq h.cons_inv hl'.2 hm'.2]
def gSortI : List D → Option D
  | [.list ds] => match intsD ds with
    | some ns => some (.list ((sortI ns).map .int))
    | none => none
  | _ => none
theorem cd_sorted : CallD X (.builtin "sorted") gSortI := by
  refine CallD.by cr_sortedI fun g O σ env x ds z H vs Q S r e k => ?_
  unfold gSortI at e
  split at e
  · split at e
    · rename_i ds ns q
      cases e
      cases r with
      | cons r r' =>
        cases r'
        obtain ⟨p, xs, rfl, hp, rx⟩ := r.lst
        rw [ints_ok q] at rx
        rw [rx.ints] at hp
        refine ⟨p, ns, rfl, .of hp, fun ns' l h1 h2 hl => ?_⟩
        have e2 : ns' = sortI ns := sorted_uniq (h1.trans (sortI_perm ns).symm) h2 (sortI_sorted ns)
        subst e2
        have sm := same_upd (o := .lst ((sortI ns).map V.int)) hl
        exact k _ _ sm (.lst (S.notO hl) upd_same (RpA.ofInts _))
    · cases e
  · cases e
def gSum : List D → Option D
  | [.list ds] => match intsD ds with
    | some ns => some (.int ns.sum)
    | none => none
  | _ => none
theorem cd_sum (hc : X.calm = true) : CallD X (.builtin "sum") gSum := by
  refine CallD.by (cr_sum hc) fun g O σ env x ds z H vs Q S r e k => ?_
  unfold gSum at e
  split at e
  · split at e
    · rename_i ds ns q
      cases e
      cases r with
      | cons r r' =>
        cases r'
        obtain ⟨p, xs, rfl, hp, rx⟩ := r.lst
        rw [ints_ok q] at rx
        rw [rx.ints] at hp
        exact ⟨p, ns, rfl, .of hp, k _ _ (Same.refl _) (.int _)⟩
    · cases e
  · cases e
def maxI : Int → List Int → Int
  | m, [] => m
  | m, n :: ns => maxI (if m < n then n else m) ns
theorem maxI_le : ∀ (ns : List Int) (m : Int), m ≤ maxI m ns ∧ (∀ n ∈ ns, n ≤ maxI m ns) ∧ (maxI m ns = m ∨ maxI m ns ∈ ns)
  | [], m => ⟨Int.le_refl _, fun n h => (by cases h), .inl rfl⟩
  | n :: ns, m => by
    unfold maxI
    obtain ⟨h1, h2, h3⟩ := maxI_le ns (if m < n then n else m)
    refine ⟨?_, fun k hk => ?_, ?_⟩
    · split at h1 <;> rename_i q
      · rw [if_pos q]; omega
      · rw [if_neg q]; omega
    · rcases List.mem_cons.mp hk with rfl | hk
      · split at h1 <;> rename_i q
        · rw [if_pos q]; omega
        · rw [if_neg q]; omega
      · exact h2 k hk
    · rcases h3 with h3 | h3
      · rw [h3]
        split
        · exact .inr List.mem_cons_self
        · exact .inl rfl
      · exact .inr (List.mem_cons_of_mem _ h3)
def gMax : List D → Option D
  | [.list ds] => match intsD ds with
    | some (n :: ns) => some (.int (maxI n ns))
    | _ => none
  | _ => none
theorem cd_max (hc : X.calm = true) : CallD X (.builtin "max") gMax := by
  refine CallD.by (cr_max hc) fun g O σ env x ds z H vs Q S r e k => ?_
  unfold gMax at e
  split at e
  · split at e
    · rename_i ds n ns q
      cases e
      cases r with
      | cons r r' =>
        cases r'
        obtain ⟨p, xs, rfl, hp, rx⟩ := r.lst
        rw [ints_ok q] at rx
        rw [rx.ints] at hp
        refine ⟨p, n :: ns, rfl, .of hp, by simp, fun m hm hle => ?_⟩
        obtain ⟨h1, h2, h3⟩ := maxI_le ns n
        have e2 : m = maxI n ns := by
          have a1 : maxI n ns ≤ m := by
            rcases h3 with h3 | h3
            · rw [h3]; exact hle n List.mem_cons_self
            · exact hle _ (List.mem_cons_of_mem _ h3)
          have a2 : m ≤ maxI n ns := by
            rcases List.mem_cons.mp hm with rfl | hm
            · exact h1
            · exact h2 m hm
          omega
        rw [e2]
        exact k _ _ (Same.refl _) (.int _)
    · cases e
  · cases e
/-! ### isinstance -/
inductive Ty where
  | int | bool | str | tuple | list | dict
def Ty.nm : Ty → String
  | .int => "int"
  | .bool => "bool"
  | .str => "str"
  | .tuple => "tuple"
  | .list => "list"
  | .dict => "dict"
def isiD : Ty → D → Option Bool
  | _, .sets _ => none
  | .int, .int _ => some true
  | .int, .bool _ => some true
  | .bool, .bool _ => some true
  | .str, .str _ => some true
  | .tuple, .tuple _ => some true
  | .list, .list _ => some true
  | .dict, .dict _ => some true
  | .dict, .dictT _ => some true
  | _, _ => some false
def tyD : D → String
  | .none => "NoneType"
  | .bool _ => "bool"
  | .int _ => "int"
  | .str _ => "str"
  | .list _ => "list"
  | .tuple _ => "tuple"
  | .dict _ => "dict"
  | .dictT _ => "dict"
  | .sets _ => "set"
theorem kit_all : ∀ (T : Ty) (n : String), n ∈ ["NoneType", "bool", "int", "str", "list", "tuple", "dict"] → kitB n T.nm = some (decide (n = T.nm) || decide (n = "bool" ∧ T.nm = "int")) := by
  intro T n h
  simp only [List.mem_cons, List.not_mem_nil, or_false] at h
  rcases h with rfl | rfl | rfl | rfl | rfl | rfl | rfl <;> cases T <;> decide +kernel
theorem kit_isi {T : Ty} {d : D} {b : Bool} (h : isiD T d = some b) : kitB (tyD d) T.nm = some b := by
  cases d with
  | sets ns => cases T <;> simp [isiD] at h
  | _ => (rw [kit_all T _ (by simp [tyD])]; rw [← h]; cases T <;> simp [tyD, Ty.nm, isiD])
theorem ty_of {K : PySem.W.Frag} {g : FG} {O : Addr → Prop} {H : Hp} {v : V} {d : D} (r : RpB K g O H v d) : TyX K H v (.type (tyD d)) := by
  rcases r with r | ⟨a, w, rfl, rfl, ha, hr, z⟩
  · cases r with
    | non => exact .base .non
    | bl b => exact .base (.bl b)
    | int i => exact .base (.int i)
    | str x => exact .base (.str x)
    | lst _ e _ => exact .base (.lst e)
    | tup _ e _ => exact .base (.tup e)
    | dK _ e _ => exact .base (.dK e)
    | dT _ e _ => exact .base (.dT e)
  · cases w with
    | lst ds => obtain ⟨xs, e, _⟩ := z; exact .base (.lst e)
    | dk ds => obtain ⟨xs, e, _⟩ := z; exact .base (.dK e)
    | dt ds => obtain ⟨xs, e, _⟩ := z; exact .base (.dT e)
def fIsi (T : Ty) (f : FE) : FE := fun env x => match f env x with
  | some (d, x1) => match isiD T d with
    | some b => some (.bool b, x1)
    | none => none
  | none => none
theorem se_isi {T : Ty} {n : Str} {p p1 : Pos} (hg : Gl X "isinstance") (hm : X.mg "isinstance" = none) (ha : SB X a fa) (hgT : Gl X n) (hmT : X.mg n = none) (hvT : bootBuiltins n = some (.type T.nm)) (hnT : n ≠ "__name__" := by decide) (hdT : (n == ("__debug__" : Str)) = false := by decide)
    (he : starEach [a, .Name n p1] X.env = (false, eval a X.env) :: starEach [.Name n p1] X.env := by rfl) (he2 : starEach [.Name n p1] X.env = (false, eval (.Name n p1) X.env) :: starEach [] X.env := by rfl) (hpl : (backTo pos (starEach [.Name n p1] X.env)).any (·.1) = false := by rfl) :
    SE X (.Call (.Name "isinstance" p) [a, .Name n p1] [] pos) (fIsi T fa) := by
  refine ⟨PEw (pe_callB call_isi hg hm (by decide +kernel) (pa_cons ha.out (pa_cons (pe_bltn (v := .ty T.nm) hgT hmT hvT rfl hnT hdT) pa_nil he2) he) (by decide) (by decide) he hpl) fun σ H Q h => ?_⟩
  obtain ⟨g, O, env, x, d, x', S, e, k⟩ := h
  unfold fIsi at e
  split at e
  · rename_i dd x1 e1
    split at e
    · rename_i b e2
      cases e
      exact ⟨g, O, env, x, dd, x', S, e1, fun v H1 S1 l1 r1 => ⟨v, .ty T.nm, _, _, b, rfl, .ty _, ty_of r1, kit_ty (kit_isi e2), k _ _ S1 l1 (.bl b)⟩⟩
    · cases e
  · cases e
def fIsi2 (T U : Ty) (f : FE) : FE := fun env x => match f env x with
  | some (d, x1) => match isiD T d, isiD U d with
    | some b, some c => some (.bool (b || c), x1)
    | _, _ => none
  | none => none
theorem se_isi2 {T U : Ty} {n m : Str} {p p1 p2 p3 : Pos} {kk : Nat} (hg : Gl X "isinstance") (hm : X.mg "isinstance" = none) (ha : SB X a fa) (hgT : Gl X n) (hmT : X.mg n = none) (hvT : bootBuiltins n = some (.type T.nm)) (hgU : Gl X m) (hmU : X.mg m = none) (hvU : bootBuiltins m = some (.type U.nm))
    (hnT : n ≠ "__name__" := by decide) (hdT : (n == ("__debug__" : Str)) = false := by decide) (hnU : m ≠ "__name__" := by decide) (hdU : (m == ("__debug__" : Str)) = false := by decide)
    (he : starEach [a, .Tuple [.Name n p1, .Name m p2] kk p3] X.env = (false, eval a X.env) :: starEach [.Tuple [.Name n p1, .Name m p2] kk p3] X.env := by rfl) (he2 : starEach [.Tuple [.Name n p1, .Name m p2] kk p3] X.env = (false, eval (.Tuple [.Name n p1, .Name m p2] kk p3) X.env) :: starEach [] X.env := by rfl)
    (he3 : starEach [.Name n p1, .Name m p2] X.env = (false, eval (.Name n p1) X.env) :: starEach [.Name m p2] X.env := by rfl) (he4 : starEach [.Name m p2] X.env = (false, eval (.Name m p2) X.env) :: starEach [] X.env := by rfl)
    (hpl : (backTo pos (starEach [.Tuple [.Name n p1, .Name m p2] kk p3] X.env)).any (·.1) = false := by rfl) :
    SE X (.Call (.Name "isinstance" p) [a, .Tuple [.Name n p1, .Name m p2] kk p3] [] pos) (fIsi2 T U fa) := by
  refine ⟨PEw (pe_callB call_isiT hg hm (by decide +kernel) (pa_cons ha.out (pa_cons (pe_tup (pa_cons (pe_bltn (v := .ty T.nm) hgT hmT hvT rfl hnT hdT) (pa_cons (pe_bltn (v := .ty U.nm) hgU hmU hvU rfl hnU hdU) pa_nil he4) he3)) pa_nil he2) he) (by decide) (by decide) he hpl) fun σ H Q h => ?_⟩
  obtain ⟨g, O, env, x, d, x', S, e, k⟩ := h
  unfold fIsi2 at e
  split at e
  · rename_i dd x1 e1
    split at e
    · rename_i b c e2 e3
      cases e
      refine ⟨g, O, env, x, dd, x', S, e1, fun v H1 S1 l1 r1 => ⟨maxLen_ok (show 2 ≤ maxLen by decide), fun q hq => ?_⟩⟩
      have sm := same_upd (o := .tup [.ty T.nm, .ty U.nm]) hq
      refine ⟨v, q, _, _, [.type T.nm, .type U.nm], b || c, rfl, upd_same, .cons (.ty _) (.cons (.ty _) .nil), ty_of (RpB.step S1 (.of sm) r1), ?_, k _ _ (S1.same sm) (l1.trans (.of sm)) (.bl _)⟩
      refine kitAny_cons (kit_ty (kit_isi e2)) (fun hb => ?_) fun hb => by rw [hb]; rfl
      rw [hb]
      exact kitAny_cons (kit_ty (kit_isi e3)) (fun hb => by rw [hb]; exact kitAny_nil) fun hb => by rw [hb]; rfl
    · cases e
  · cases e
/-! ### a store to the row -/
def sRow (i : Nat) (k : Int) (f : FE) : FS := fun env x => match f env x with
  | some (.int z, x1) => match env[i]? with
    | some .rw => if k = 1 then some (.nx env, { x1 with a := z }) else if k = 2 then some (.nx env, { x1 with b := z }) else if k = 3 then some (.nx env, { x1 with c := z }) else none
    | _ => none
  | _ => none
theorem row_put {K : PySem.W.Frag} {g : FG} {O : Addr → Prop} {σ : L2.St} {H : Hp} {env : FEn} {x x' : FRow} {r : Addr} {xs : List V} (S : FSt K g O σ H env x) (hR : g.R = some r) (rt : RowAt K (upd H r (.lst xs)) r x') : FSt K g O σ (upd H r (.lst xs)) env x' :=
  S.step (fun a o n e => by rw [upd_ne (fun z => n (by rw [z]; exact hR))]; exact e) fun q hq => by rw [hR] at hq; cases hq; exact rt
theorem rowAt_upd {K : PySem.W.Frag} {H : Hp} {r a0 : Addr} {ns : List Int} {i j l : Int} {ys : List V} (h : H r = some (.lst ys)) (q : (∃ o, H a0 = some (.frz o (.lst (ns.map V.int)))) ∨ SqL K (fun _ => none) a0 (ns.map V.int)) : RowAt K (upd H r (.lst [.ref a0, .int i, .int j, .int l])) r ⟨ns, i, j, l⟩ := by
  refine ⟨a0, upd_same, ?_⟩
  rcases q with ⟨o, q⟩ | q
  · refine .inl ⟨o, ?_⟩
    rw [upd_ne (show a0 ≠ r from fun z => by rw [z, h] at q; cases q)]
    exact q
  · exact .inr q
theorem ss_row {i j : Nat} {k : Int} {n : Str} {f : FE} {p p1 pos' : Pos} (he : SE X e f) (hs : swapsWithSole [.Subscript (.Name n p) (.Constant (.int k) j p1) pos'] e pos.line X.env = pure false := by rfl) (hw : swappedStores [.Subscript (.Name n p) (.Constant (.int k) j p1) pos'] e X.env = pure none := by rfl)
    (h1 : (assignEach [.Subscript (.Name n p) (.Constant (.int k) j p1) pos'] X.env).map (·.2) = [assign (.Subscript (.Name n p) (.Constant (.int k) j p1) pos') X.env] := by rfl)
    (hN : X.N[i]? = some n := by rfl) (hvis : Vis X.env.scope n := by first | exact Or.inl rfl | exact Or.inr (Or.inl rfl) | exact Or.inr (Or.inr rfl)) (hd : (n == ("__debug__" : Str)) = false := by decide)
    (hcd : (n == ("__classdict__" : Str)) = false := by decide) : SS X (.Assign [.Subscript (.Name n p) (.Constant (.int k) j p1) pos'] e pos) (sRow i k f) := by
  refine ⟨PSw (ps_asg he.out (pg_sub (pe_var hN hvis hd hcd) pe_int set_list) hs hw h1) fun Dn σ H h => ?_⟩
  obtain ⟨g, O, env, x, r, x', S, e, kk⟩ := h
  unfold sRow at e
  split at e
  · rename_i z x1 e1
    split at e
    · rename_i e0
      refine ⟨g, O, env, x, _, x1, S, e1, fun v H1 S1 l1 r1 => ?_⟩
      cases r1
      obtain ⟨s, e5, q5⟩ := S1.at e0
      cases q5 with
      | @rw ra hR =>
        obtain ⟨q1, q2, a0, q3, q4⟩ := S1.row ra hR
        split at e
        · rename_i hk
          cases e
          subst hk
          exact ⟨_, e5, ra, _, 1, 1, rfl, rfl, q3, rfl, kk O _ _ (row_put S1 hR (rowAt_upd q3 q4))⟩
        · split at e
          · rename_i hk
            cases e
            subst hk
            exact ⟨_, e5, ra, _, 2, 2, rfl, rfl, q3, rfl, kk O _ _ (row_put S1 hR (rowAt_upd q3 q4))⟩
          · split at e
            · rename_i hk
              cases e
              subst hk
              exact ⟨_, e5, ra, _, 3, 3, rfl, rfl, q3, rfl, kk O _ _ (row_put S1 hR (rowAt_upd q3 q4))⟩
            · cases e
    · cases e
  · cases e
end
end RT

namespace RT
open PySem PySem.Spec PyProof.Rows L2
/-! ### enumerate of a list, of a tuple -/
set_option maxHeartbeats 2000000 in
theorem meets_enum1 {v : Value} {o : Obj} {Hh : Heap → Prop} (B : Begins v o Hh) :
    Meets (Builtin.«enumerate.__new__» ⟨[.type "enumerate", v], []⟩) (fun _ R s => Hh s.heap ∧
      R (.ok (.ret (.ref (s.heap.push o).objs.size))) { s with heap := (s.heap.push o).push { cls := .type "enumerate", data := .fields #[.none, .bool false, .ref s.heap.objs.size, rawInt 0, .none, .none] } }) := by
  refine .of_wp fun prog w A R s h => ?_
  obtain ⟨hp, gg, dd, tk, os⟩ := s
  obtain ⟨h1, h⟩ := h
  have hsub := sub_enumerate
  have q1 : ∀ {A' : Around} {E : Value → Shared → Prop} {Q : Value → Shared → Prop}, Q (.ref hp.objs.size) ⟨hp.push o, gg, dd, tk, os⟩ → wpAny (model prog w) A' (pyIter v) Q E ⟨hp, gg, dd, tk, os⟩ := fun q => B.iter prog w _ _ ⟨hp, gg, dd, tk, os⟩ _ h1 q
  wp_walk using q1
  refine wpAny_stack_any fun st => wpAny_pure ?_
  split
  · rename_i c _ _ _ _ _
    cases (c == Value.type "enumerate") <;>
      (wp_walk using q1
       exact ⟨_, rfl, h⟩)
  · wp_walk using q1
    exact ⟨_, rfl, h⟩
theorem call_enum1 {prog : Program} {w : World} {A : Around} {E : Value → Shared → Prop} {s : Shared} {v : Value} {o : Obj} {Hh : Heap → Prop} {Q : Value → Shared → Prop} (B : Begins v o Hh) (h1 : Hh s.heap)
    (h : ∀ h', IsEnum h' (s.heap.objs.size + 1) s.heap.objs.size 0 .none → h'.get? s.heap.objs.size = some o → h'.objs.size = s.heap.objs.size + 2 → (∀ b o, s.heap.get? b = some o → h'.get? b = some o) → Q (.ref (s.heap.objs.size + 1)) { s with heap := h' }) :
    wpAny (model prog w) A (call (.type "enumerate") [v]) Q E s := by
  refine callType_new F.called_enumerate (by decide) (F.typeCall_enumerate_1 _) (F.newCall_enumerate_1 _) (fun obj => F.args_object_init_2 obj _) F.entry_enumerate_new (meets_enum1 B) ⟨h1, ?_⟩
  have hz : (s.heap.push o).objs.size = s.heap.objs.size + 1 := Heap.size_push ..
  show _ ∧ _
  rw [hz]
  have he : IsEnum ((s.heap.push o).push { cls := .type "enumerate", data := .fields #[.none, .bool false, .ref s.heap.objs.size, rawInt 0, .none, .none] }) (s.heap.objs.size + 1) s.heap.objs.size 0 .none := by
    have q := Heap.get?_push_size (s.heap.push o) (o := { cls := .type "enumerate", data := .fields #[.none, .bool false, .ref s.heap.objs.size, rawInt 0, .none, .none] }) rfl
    rw [hz] at q
    exact q
  exact ⟨⟨_, he, rfl⟩, h _ he (Heap.get?_push_of_some _ (Heap.get?_push_size _ B.free)) (by rw [Heap.size_push, hz]) fun b o x => Heap.get?_push_of_some _ (Heap.get?_push_of_some _ x)⟩
/-- the turns: the tuple at a stands, each item in a new pair -/
def ItE (K : PySem.W.Frag) (a : Addr) : It where
  go := fun i H => ∃ (xs : List V) (x : V), SqT K H a xs ∧ xs[i]? = some x
  yld := fun i H v H' => ∃ T x, v = .ref T ∧ H T = none ∧ H' = upd H T (.tup [.int (i : Nat), x]) ∧ ∀ xs, SqT K H a xs → xs[i]? = some x
  stop := fun i H => ∃ xs : List V, SqT K H a xs ∧ xs.length = i
theorem turn_enumT {P : Program} {w : World} {K : PySem.W.Frag} {elts : List Expr} {kk : Nat} {tpos : Pos} (a e it : Addr) :
    Turn P w K (.Tuple elts kk tpos) (ItE K a) [e, it] e (fun i h => (∃ old, IsEnum h e it ((i : Nat) : Int) old) ∧ h.IsTupleIter it a i ∧ e ≠ it ∧ a ≠ it ∧ e ≠ a) := by
  refine ⟨by simp, fun i h st b hb => ?_, fun i h h' st k => ?_, ?_, ?_, fun A i s Q E st h => ?_⟩
  · obtain ⟨⟨old, he⟩, ⟨o, ho, hc, hd⟩, _⟩ := st
    rcases (show b = e ∨ b = it by simpa using hb) with rfl | rfl
    · exact ⟨_, he, fun v q => nomatch q⟩
    · exact ⟨o, ho, fun v q => by rw [hd] at q; cases q⟩
  · obtain ⟨⟨old, he⟩, hi, n1, n2, n3⟩ := st
    exact ⟨⟨old, k e (by simp) _ he⟩, hi.at fun o q => k it (by simp) o q, n1, n2, n3⟩
  · rintro X rfl rfl rfl hc i pins s σ H E I hf ⟨⟨old, he⟩, hit, n1, n2, n3⟩ ⟨xs, x, hq, hx⟩
    obtain ⟨its, rv, p, hz⟩ := I.tuple hq
    obtain ⟨u, hu, ru⟩ := rv.get hx
    have hel : e < s.heap.objs.size := Heap.lt_size he
    have hil : it < s.heap.objs.size := by
      obtain ⟨_, q, _⟩ := hit
      exact Heap.lt_size q
    have hlt : i < its.toArray.size := by
      have := (List.getElem?_eq_some_iff.mp hu).1
      simpa using this
    refine wpAny_pyNext_enum_itemD (Draws.tuple (A := X.A.in1) (I.ok.hd hc) it a n2 its.toArray) he ⟨hit, show s.heap.IsTuple a its.toArray from p⟩ hlt n1 (by simp [n1, n3]) fun y h1 tk hy ho hit1 hT hsz hk => ?_
    have ey : y = u := by
      have hy : its.toArray[i]? = some y := hy
      rw [show its.toArray[i]? = its[i]? by simp, hu] at hy
      exact (Option.some.inj hy).symm
    subst ey
    refine ⟨_, rfl, wpAny_letOwnedTupleGo_enum (s := { s with heap := h1, toks := tk + 1 }) ho fun h2 he2 sb => ?_⟩
    have hT2 : h2.get? s.heap.objs.size = some { cls := .type "tuple", data := .seq #[.int i tk, y] } := (sb.2 _ (Nat.ne_of_gt hel)).trans hT
    have new : ObjOk X.prog X.w (upd H s.heap.objs.size (.tup [.int (i : Nat), x])) h2 s.heap.objs.size (.tup [.int (i : Nat), x]) := ⟨maxLen_ok (show 2 ≤ maxLen by decide), [.int i tk, y], .cons ⟨_, rfl⟩ (.cons ru .nil), ⟨_, hT2, rfl, _, rfl⟩⟩
    have I1 : L2.Inv X pins σ (upd H s.heap.objs.size (.tup [.int (i : Nat), x])) { s with heap := h2, toks := tk + 1 } := I.turnedNew (ch := [e, it]) (fun b ob hb q => (sb.2 b fun z => hb (by simp [z])).trans (hk b ob (fun z => hb (by simp [z])) (fun z => hb (by simp [z])) q)) hf (Nat.le_refl _) new
    refine ⟨.ref s.heap.objs.size, _, I1, rfl, ⟨_, x, rfl, I.hok.fresh (Nat.le_refl _), rfl, fun ys hy => by rw [I.tuple_inj hy hq]; exact hx⟩, ⟨⟨y, ?_⟩, hit1.1.at fun o q => (sb.2 it (Ne.symm n1)).trans q, n1, n2, n3⟩, fun b hb => ?_⟩
    · rw [show ((i + 1 : Nat) : Int) = (i : Int) + 1 by omega]
      exact he2
    · have hb' : b < s.heap.objs.size := by
        rcases (show b = e ∨ b = it by simpa using hb) with rfl | rfl
        · exact hel
        · exact hil
      rw [upd_ne (Nat.ne_of_lt hb')]
      exact (hf b hb).1
  · rintro X rfl rfl rfl hc i pins s σ H E I hf ⟨⟨old, he⟩, hit, n1, n2, n3⟩ ⟨xs, hq, hx⟩
    obtain ⟨its, rv, p, hz⟩ := I.tuple hq
    obtain ⟨f0, f1, f2, f3, f4, f5⟩ := hf it (by simp)
    have hl : its.toArray.size = i := by
      rw [List.size_toArray, ← rv.length]
      exact hx
    refine wpAny_pyNext_enum_endD (Draws.tuple (A := X.A.in1) (I.ok.hd hc) it a n2 its.toArray) he ⟨by rw [hl]; exact hit, show s.heap.IsTuple a its.toArray from p⟩ fun h1 eb => ⟨rfl, I.turned (t' := s.toks) (fun b o hb q => eb b o hb q) f0 f1 f3 f4 f5⟩
  · obtain ⟨⟨_, he⟩, _⟩ := st
    exact wpAny_pyIter_enum he h
def iEnT (K : PySem.W.Frag) (ta : TA) : TI := fun σ H R => ta σ H fun vs H1 => ∃ a xs, vs = [.ref a] ∧ SqT K H1 a xs ∧ R (ItE K a) H1
section
variable {X : Cx} {a b c e : Expr} {es : List Expr} {fa fb fc f : FE} {pos : Pos}
theorem pi_enT {ta : TA} {p tpos : Pos} {elts : List Expr} {kk : Nat} (hg : Gl X "enumerate") (hm : X.mg "enumerate" = none) (ha : PA X [e] ta) (hs : starEach [e] X.env = [(false, eval e X.env)] := by rfl) :
    PI X (.Tuple elts kk tpos) (.Call (.Name "enumerate" p) [e] [] pos) (iEnT X.K ta) := by
  refine ⟨fun pins s σ H R I h => ?_⟩
  refine Call_ (ld_blt I hg hm boot_enumerate (PyProof.Rows.callWith_type1 (thn (ha.run pos pins s σ H _ I h) fun us s1 ⟨vs, H1, I1, r1, q1⟩ => ?_) hs rfl))
  obtain ⟨a, xs, rfl, hq, q⟩ := q1
  rw [Vals.ref1 r1]
  obtain ⟨its, rv, p', hz⟩ := I1.tuple hq
  have hlt : a < s1.heap.objs.size := by
    obtain ⟨o, ho, _⟩ := p'
    exact Heap.lt_size ho
  refine call_enum1 (begins_tuple a its.toArray) (show s1.heap.IsTuple a its.toArray from p') fun h1 he hit hsz hk => wpAny_pyIter_enum he ?_
  refine ⟨s1.heap.objs.size + 1, [s1.heap.objs.size + 1, s1.heap.objs.size], _, _, H1, rfl, I1.kept (h' := h1) (t' := s1.toks) hk, turn_enumT a (s1.heap.objs.size + 1) s1.heap.objs.size, ⟨⟨.none, he⟩, ⟨_, hit, rfl, rfl⟩, Nat.succ_ne_self _, Nat.ne_of_lt hlt, Nat.ne_of_gt (Nat.lt_succ_of_lt hlt)⟩, fun b hb => ?_, q⟩
  have hle : s1.heap.objs.size ≤ b := by
    rcases (show b = s1.heap.objs.size + 1 ∨ b = s1.heap.objs.size by simpa using hb) with z | z
    · rw [z]; exact Nat.le_succ _
    · rw [z]; exact Nat.le_refl _
  exact I1.fpOk hle (I1.hok.fresh hle)
/-- the pairs (i, x) -/
def enD (ds : List D) : List D := (List.range ds.length).zipWith (fun (i : Nat) d => D.tuple [.int (i : Int), d]) ds
theorem enD_len (ds : List D) : (enD ds).length = ds.length := by simp [enD]
theorem enD_get {ds : List D} {i : Nat} {d : D} (h : (enD ds)[i]? = some d) : ∃ e, ds[i]? = some e ∧ d = .tuple [.int (i : Int), e] := by
  have hl : i < ds.length := by
    have := (List.getElem?_eq_some_iff.mp h).1
    rwa [enD_len] at this
  refine ⟨ds[i], List.getElem?_eq_getElem hl, ?_⟩
  have e1 : (enD ds)[i]? = some (.tuple [.int (i : Int), ds[i]]) := by
    unfold enD
    rw [List.getElem?_zipWith]
    simp [hl]
  rw [e1] at h
  exact (Option.some.inj h).symm
def fEn (f : FE) : FA := fun env x => match f env x with
  | some (.list ds, x1) => some (enD ds, x1)
  | some (.tuple ds, x1) => some (enD ds, x1)
  | _ => none
theorem si_en {p tpos : Pos} {elts : List Expr} {kk : Nat} (hg : Gl X "enumerate") (hm : X.mg "enumerate" = none) (ha : SE X a fa) (hs : starEach [a] X.env = [(false, eval a X.env)] := by rfl) : SI X (.Tuple elts kk tpos) (.Call (.Name "enumerate" p) [a] [] pos) (fEn fa) := by
  refine ⟨⟨fun pins s σ H R I h2 => ?_⟩⟩
  obtain ⟨g, O, env, x, ds, x', S, e, k⟩ := h2
  unfold fEn at e
  split at e
  · rename_i ds' x1 e1
    cases e
    refine (pi_enum hg hm (pa_cons ha.out pa_nil hs) hs).run pins s σ H R I ⟨g, O, env, x, _, x', S, e1, fun v H1 S1 l1 r1 => ?_⟩
    cases r1 with
    | @lst p xs _ np hp rx =>
      refine ⟨p, xs, rfl, .of hp, k _ [(.ref p, .list ds')] H1 (S1.addg _ fun q hq => ?_) l1 fun O2 σ2 H2 env2 x2 i S2 => ?_⟩
      · rw [List.mem_singleton] at hq
        subst hq
        exact .lst np hp rx
      · have q := S2.gh (.ref p, .list ds') (by simp [FG.add])
        cases q with
        | @lst _ ys _ np2 hp2 ry =>
          refine ⟨fun d hd => ?_, fun hi => ⟨ys, .of hp2, by rw [ry.length, hi, enD_len]; exact Nat.le_refl _⟩⟩
          obtain ⟨d0, hd0, rfl⟩ := enD_get hd
          obtain ⟨y, e2, r2⟩ := ry.get hd0
          refine ⟨⟨ys, y, .of hp2, e2⟩, fun v H' hy => ?_⟩
          obtain ⟨T, x3, rfl, hT, rfl, hy⟩ := hy
          have e3 := hy ys (.of hp2)
          rw [e2] at e3
          cases e3
          have sm := same_upd (o := .tup [.int (i : Nat), y]) hT
          exact ⟨sm, .tup (S2.notO hT) upd_same (.cons (.int _) (.cons (r2.move (.of sm) .refl) .nil))⟩
  · rename_i ds' x1 e1
    cases e
    refine (pi_enT hg hm (pa_cons ha.out pa_nil hs) hs).run pins s σ H R I ⟨g, O, env, x, _, x', S, e1, fun v H1 S1 l1 r1 => ?_⟩
    cases r1 with
    | @tup p xs _ np hp rx =>
      refine ⟨p, xs, rfl, .of hp, k _ [(.ref p, .tuple ds')] H1 (S1.addg _ fun q hq => ?_) l1 fun O2 σ2 H2 env2 x2 i S2 => ?_⟩
      · rw [List.mem_singleton] at hq
        subst hq
        exact .tup np hp rx
      · have q := S2.gh (.ref p, .tuple ds') (by simp [FG.add])
        cases q with
        | @tup _ ys _ np2 hp2 ry =>
          refine ⟨fun d hd => ?_, fun hi => ⟨ys, .of hp2, by rw [ry.length, hi, enD_len]⟩⟩
          obtain ⟨d0, hd0, rfl⟩ := enD_get hd
          obtain ⟨y, e2, r2⟩ := ry.get hd0
          refine ⟨⟨ys, y, .of hp2, e2⟩, fun v H' hy => ?_⟩
          obtain ⟨T, x3, rfl, hT, rfl, hy⟩ := hy
          have e3 := hy ys (.of hp2)
          rw [e2] at e3
          cases e3
          have sm := same_upd (o := .tup [.int (i : Nat), y]) hT
          exact ⟨sm, .tup (S2.notO hT) upd_same (.cons (.int _) (.cons (r2.move (.of sm) .refl) .nil))⟩
  · cases e
end
end RT

namespace RT
open PySem PySem.Spec PyProof.Rows L2 PpSet
/-! ### dict comprehensions -/
def dcL (gt : FGt) (t : FT) (fk fv : FE) (env : FEn) : List D → List (D × D) → FRow → Option (List (D × D) × FRow)
  | [], acc, x => some (acc, x)
  | d :: ds, acc, x => match gt d env with
    | none => none
    | some e1 => match t e1 x with
      | some (true, x1) => match fk e1 x1 with
        | some (k, x2) => match dKey k with
          | some q => match fv e1 x2 with
            | some (v, x3) => if acc.length < maxLen then dcL gt t fk fv env ds (putD dKey acc k q v) x3 else none
            | none => none
          | none => none
        | none => none
      | some (false, x1) => dcL gt t fk fv env ds acc x1
      | none => none
def xDc (f : FA) (gt : FGt) (t : FT) (fk fv : FE) (vs : List Nat) : FX := fun env x => match f env x with
  | some (ds, x1) => match dcL gt t fk fv (wipeE env vs) ds [] x1 with
    | some (r, x2) => some (.ow (.dk r), x2)
    | none => none
  | none => none
theorem dc_read {K : PySem.W.Frag} {f : FA} {gt : FGt} {t : FT} {fk fv : FE} {vs : List Nat} {σ : L2.St} {H : Hp} {Q : VK} (h : tX K (xDc f gt t fk fv vs) σ H Q) : tDc (tI K f) (tG K vs gt) (tT K t) (tE K fk) (tE K fv) vs σ H Q := by
  obtain ⟨g, O, env, x, sl, x', S, e, k⟩ := h
  unfold xDc at e
  split at e
  · rename_i ds x1 e1
    split at e
    · rename_i rs x2 e2
      cases e
      refine ⟨g, O, env, x, ds, x1, S, e1, fun J more H1 S1 l1 wk p hp => ?_⟩
      have n1 := S1.newp hp
      have hp0 : H p = none := Le.gone l1 hp S1.unadd
      have hne : ∀ (j : Nat) d b, env[j]? = some (.ow d) → σ[j]? = some (some (.ref b)) → b ≠ p := fun j d b h1 h2 => own_ne S1 hp h1 h2
      refine ⟨fun i m H2 => m = ds.length - i ∧ i ≤ ds.length ∧ Le g H H2 ∧ ∃ x kvs acc, FSt K (g.add more) (oAdd O p) σ H2 env x ∧ H2 p = some (.dK kvs) ∧ RpK K (oAdd O p) H2 kvs acc ∧ dcL gt t fk fv (wipeE env vs) (ds.drop i) acc x = some (rs, x'),
        ⟨_, rfl, Nat.zero_le _, l1.trans (.of (same_upd hp)), x1, [], [], S1.own hp True.intro, upd_same, .nil, e2⟩, fun i m H2 hW => ?_⟩
      obtain ⟨rfl, hil, lH, x, kvs, acc, S2, hacc, racc, e⟩ := hW
      obtain ⟨wgo, wst⟩ := wk _ σ H2 env x i S2
      by_cases hlt : i < ds.length
      · have hd : ds[i]? = some ds[i] := List.getElem?_eq_getElem hlt
        obtain ⟨go, yl⟩ := wgo _ hd
        rw [drop_get hd] at e
        refine .inr ⟨go, fun H2 => i + 1 ≤ ds.length ∧ Le g H H2 ∧ ∃ x kvs acc, FSt K (g.add more) (oAdd O p) σ H2 env x ∧ H2 p = some (.dK kvs) ∧ RpK K (oAdd O p) H2 kvs acc ∧ dcL gt t fk fv (wipeE env vs) (ds.drop (i + 1)) acc x = some (rs, x'),
          fun H' hN => ⟨ds.length - (i + 1), by omega, rfl, hN.1, hN.2⟩, fun v H3 hy => ?_⟩
        obtain ⟨sm, rv⟩ := yl v H3 hy
        unfold dcL at e
        split at e
        · cases e
        · rename_i env1 e3
          have S3 := S2.same sm
          refine ⟨g.add more, oAdd O p, wipeE env vs, x, ds[i], env1, S3.wiped vs, rv, e3, fun σ1 w1 S4 => ⟨w1.trans (wipe_wipe σ vs), ?_⟩⟩
          split at e
          · rename_i xb e4
            split at e
            · rename_i kd x3 e5
              split at e
              · rename_i q e6
                split at e
                · rename_i vd x4 e7
                  split at e
                  · rename_i hl
                    refine ⟨g.add more, oAdd O p, env1, x, _, xb, S4, e4, fun H5 S5 l5 => ?_⟩
                    refine iteT ?_
                    refine ⟨g.add more, oAdd O p, env1, xb, kd, x3, S5, e5, fun y H6 S6 l6 r6 => ⟨g.add more, oAdd O p, env1, x3, vd, x4, S6, e7, fun z H7 S7 l7 r7 => ?_⟩⟩
                    have l8 : Le (g.add more) H2 H7 := (Le.of sm).trans (l5.trans (l6.trans l7))
                    have S8 := S2.step l8 fun r hr => (S7.row r hr).2.2
                    have hacc' := l8 p _ n1.2 hacc
                    refine ⟨kvs, q, dKey_rp e6 r6, hacc', by rw [racc.length]; exact maxLen_lt hl, hlt, ?_, x4, _, _, S8.upd1 (.inr rfl) n1.1 n1.2 True.intro hne, upd_same, ?_, e⟩
                    · intro c u hR e
                      have z : c ≠ p := fun z => by rw [z, hp0] at e; cases e
                      rw [upd_ne z]
                      exact l8 c u hR (lH c u hR e)
                    · have ek := dKey_ok e6
                      subst ek
                      exact (RpK.put (racc.move (S2.keep l8) .refl) r7).move (keep_own S8 (.inr rfl)) .refl
                  · cases e
                · cases e
              · cases e
            · cases e
          · rename_i xb e4
            refine ⟨g.add more, oAdd O p, env1, x, _, xb, S4, e4, fun H5 S5 l5 => ?_⟩
            refine iteF ?_
            have l7 : Le (g.add more) H2 H5 := (Le.of sm).trans l5
            have S7 := S2.step l7 fun r hr => (S5.row r hr).2.2
            exact ⟨hlt, fun c u hR e => l7 c u hR (lH c u hR e), xb, kvs, acc, S7, l7 p _ n1.2 hacc, racc.move (S2.keep l7) .refl, e⟩
          · cases e
      · have hi : i = ds.length := by omega
        rw [hi, List.drop_length] at e
        unfold dcL at e
        cases e
        refine .inl ⟨wst hi, k (oAdd O p) _ H2 S2.unadd lH (fun a z => z.elim .inl fun e => .inr (e ▸ hp0)) (fun a z => .inl z) (.ow (.inr rfl) n1.1 n1.2 ⟨kvs, hacc, racc⟩) fun d z => ⟨p, rfl, hp0⟩⟩
    · cases e
  · cases e
section
variable {X : Cx} {a b c e : Expr} {es : List Expr} {fa fb fc f : FE} {pos : Pos}
theorem sx_dc {kx vx tg iter : Expr} {ifs : List Expr} {scope : Scope} {own : List (Str × Nat)} {f : FA} {gt : FGt} {t : FT} {fk fv : FE} (hc : X.calm = true) (hN : X.N.Nodup) (hi : SI X tg iter f) (ok : BlkOk X.N X.env.scope scope own)
    (hg : ∀ (s : Shared) (H : Hp) (C : Addr) (cl : List (Str × Addr)) (fp : List Addr), SG (X.blk s H scope (compEnvC scope cl C X.env) fp) tg (own.map (·.2)) gt)
    (ht : ∀ (s : Shared) (H : Hp) (C : Addr) (cl : List (Str × Addr)) (fp : List Addr), STs (X.blk s H scope (compEnvC scope cl C X.env) fp) ifs t)
    (hk : ∀ (s : Shared) (H : Hp) (C : Addr) (cl : List (Str × Addr)) (fp : List Addr), SE (X.blk s H scope (compEnvC scope cl C X.env) fp) kx fk)
    (he : ∀ (s : Shared) (H : Hp) (C : Addr) (cl : List (Str × Addr)) (fp : List Addr), SE (X.blk s H scope (compEnvC scope cl C X.env) fp) vx fv) (hs : ∀ x, foldedSetIterable iter X.env x = pure x := by intro _; rfl) :
    SX X (.DictComp kx vx [⟨tg, iter, ifs, 0⟩] scope pos) (xDc f gt t fk fv (own.map (·.2))) :=
  ⟨PEw (pe_dc hc hN hi.out ok (fun s H C cl fp => (show PG _ tg (tG X.K (own.map (·.2)) gt) from (hg s H C cl fp).out)) (fun s H C cl fp => (show PTs _ ifs (tT X.K t) from (ht s H C cl fp).out)) (fun s H C cl fp => (show PE _ kx (tE X.K fk) from (hk s H C cl fp).out)) (fun s H C cl fp => (show PE _ vx (tE X.K fv) from (he s H C cl fp).out)) hs) fun σ H Q h => dc_read h⟩
end
/-! ### sets of ints -/
def SetIO (w : World) (a : Addr) (M : Int → Bool) (n : Nat) : HO := .ext fun h => SetR w h a M n
theorem setR_move {w : World} {h h' : Heap} {a : Addr} {M : Int → Bool} {n : Nat} (R : SetR w h a M n) (k : ∀ o, h.get? a = some o → h'.get? a = some o) : SetR w h' a M n := by
  obtain ⟨o, es, ep, t, ho, r⟩ := R
  exact ⟨o, es, ep, t, k o ho, r⟩
theorem setIO_ok {w : World} {P : Program} {H : Hp} {h : Heap} {a : Addr} {M : Int → Bool} {n : Nat} (R : SetR w h a M n) : ObjOk P w H h a (SetIO w a M n) := by
  refine ⟨R, ?_, fun h1 h2 p k => setR_move p k⟩
  obtain ⟨o, _, _, _, ho, _⟩ := R
  exact ⟨o, ho⟩
section
variable {X : Cx} {elt tg iter : Expr} {ifs : List Expr} {scope : Scope} {own : List (Str × Nat)} {pos : Pos} {wi : TI} {g : TG} {tt : TT} {te : TE}
theorem addI_ok {pins : List (Addr × Obj)} {σ : L2.St} {H : Hp} {s : Shared} {E : Value → Shared → Prop} {p : Addr} {M : Int → Bool} {n : Nat} {k : Int} {tk : Tok} {Q : Value → Shared → Prop} (I : L2.Inv X pins σ H s) (hp : H p = some (SetIO X.w p M n)) (room : n + 1 < scanBound)
    (h : ∀ s', L2.Inv X pins σ (upd H p (SetIO X.w p (fun j => M j || decide (j = k)) (if M k = true then n else n + 1))) s' → Q .none s') : wpAny (model X.prog X.w) X.A (call (.builtin "set.add") [.ref p, .int k tk]) Q E s := by
  have R : SetR X.w s.heap p M n := (I.hok p _ hp).1
  refine setR_add R room fun h1 sb new => h _ (I.write (e := p) (t' := s.toks + 1) (by rw [hp]; exact True.intro) (.inl rfl) (fun b u hb hu => (sb.2 b hb).trans hu) ?_ (setIO_ok new))
  obtain ⟨o, _, _, _, ho, _⟩ := new
  exact ⟨o, ho⟩
/-- {elt for .. in .. if ..}, elt an int -/
def tSi (w : World) (wi : TI) (g : TG) (tt : TT) (te : TE) (vs : List Nat) : TE := fun σ H Q => wi σ H fun J H1 => ∀ p, H1 p = none →
  ∃ W : Nat → Nat → Hp → Prop, (∃ m, W 0 m (upd H1 p (SetIO w p (fun _ => false) 0))) ∧ ∀ i m H, W i m H → (J.stop i H ∧ Q (.ref p) H) ∨
    (J.go i H ∧ ∃ Nx : Hp → Prop, (∀ H', Nx H' → ∃ m', m' < m ∧ W (i + 1) m' H') ∧ ∀ x H', J.yld i H x H' → g x (wipe σ vs) H' fun σ2 H2 => wipe σ2 vs = wipe σ vs ∧ tt σ2 H2 fun b H3 =>
      if b = true then te σ2 H3 fun y H4 => ∃ (k : Int) (M : Int → Bool) (n : Nat), y = .int k ∧ H4 p = some (SetIO w p M n) ∧ n + 1 < scanBound ∧ Nx (upd H4 p (SetIO w p (fun j => M j || decide (j = k)) (if M k = true then n else n + 1))) else Nx H3)
theorem pe_si (hc : X.calm = true) (hN : X.N.Nodup) (hi : PI X tg iter wi) (ok : BlkOk X.N X.env.scope scope own)
    (hg : ∀ (s : Shared) (H : Hp) (C : Addr) (cl : List (Str × Addr)) (fp : List Addr), PG (X.blk s H scope (compEnvC scope cl C X.env) fp) tg g)
    (ht : ∀ (s : Shared) (H : Hp) (C : Addr) (cl : List (Str × Addr)) (fp : List Addr), PTs (X.blk s H scope (compEnvC scope cl C X.env) fp) ifs tt)
    (he : ∀ (s : Shared) (H : Hp) (C : Addr) (cl : List (Str × Addr)) (fp : List Addr), PE (X.blk s H scope (compEnvC scope cl C X.env) fp) elt te)
    (hs : ∀ x, foldedSetIterable iter X.env x = pure x := by intro _; rfl) : PE X (.SetComp elt [⟨tg, iter, ifs, 0⟩] scope pos) (tSi X.w wi g tt te (own.map (·.2))) := by
  refine ⟨fun pins s σ H Q I h => ?_⟩
  rw [eval_SetComp]
  have clo : ∀ y ∈ scope.names, y.2 = .free → ∃ c, X.env.cells.lookup y.1 = some c := fun y hy e => (ok.free y hy e).elim (fun k => I.ok.has _ (.inl k)) fun k => I.ok.has _ (.inr k)
  refine wpAny_comprehension_free (use := none) rfl hs (closure_ok clo) ok.kind (fun y hy e => by rw [ok.uniq y hy, e]) (thn (hi.run pins s σ H _ I h) fun xv s1 hx => thn hx fun itv s2 h2 => ?_)
  obtain ⟨it, fp, tn, J, H2, rfl, I2, T, st2, f2, q⟩ := h2
  refine newSet_ok (newEnv_comp ?_)
  -- the empty set, laid and tracked
  let eo : Obj := { cls := .type "set", dict := none, data := .set #[] 0 (.fresh 0 0 (!X.w.params.followText "set-order")) }
  let p : Addr := s2.heap.objs.size
  have hpn : H2 p = none := I2.hok.fresh (Nat.le_refl _)
  obtain ⟨W, ⟨m0, w0⟩, turn⟩ := q p hpn
  let s3 : Shared := { s2 with heap := s2.heap.push eo }
  let H3 : Hp := upd H2 p (SetIO X.w p (fun _ => false) 0)
  have I3 : L2.Inv X pins σ H3 s3 := I2.laid (t' := s2.toks) (fun b o e => Heap.get?_push_of_some _ e) (Nat.le_refl _) (setIO_ok (setR_fresh X.w))
  have low : ∀ b ∈ fp, b < s2.heap.objs.size := fun b hb => let ⟨_, e, _⟩ := T.obj _ _ st2 b hb; Heap.lt_size e
  have f3 : ∀ b ∈ fp, FpOk X pins H3 b ∧ b < s3.heap.objs.size := fun b hb => by
    have hlt := low b hb
    refine ⟨⟨?_, (f2 b hb).2⟩, by show b < (s2.heap.push eo).objs.size; rw [Heap.size_push]; exact Nat.lt_succ_of_lt hlt⟩
    show upd H2 p _ b = none
    rw [upd_ne (show b ≠ p from Nat.ne_of_lt hlt)]
    exact (f2 b hb).1
  have st3 : tn 0 s3.heap := T.keep _ _ _ st2 fun b _ o e => Heap.get?_push_of_some _ e
  have I4 := block_start I3 ok hN f3
  have pg := hg s3 H3 s3.heap.objs.size (cellsFrom (s3.heap.objs.size + 1) scope.names (cloFrom X.env.cells scope.names [])) fp
  have pt := ht s3 H3 s3.heap.objs.size (cellsFrom (s3.heap.objs.size + 1) scope.names (cloFrom X.env.cells scope.names [])) fp
  have pe := he s3 H3 s3.heap.objs.size (cellsFrom (s3.heap.objs.size + 1) scope.names (cloFrom X.env.cells scope.names [])) fp
  have nfp : ∀ b ∈ fp, H3 b = none := fun b hb => (f3 b hb).1.1
  have w0 : W 0 m0 H3 := w0
  clear_value H3
  show codeAny (model X.prog X.w) X.A (.compStart (.SetComp elt [⟨tg, iter, ifs, 0⟩] scope pos) 0 (.ref it) (.ref p) (compEnvC scope (cellsFrom (s3.heap.objs.size + 1) scope.names (cloFrom X.env.cells scope.names [])) s3.heap.objs.size X.env)) (compPost (model X.prog X.w) X.A X.xe none (EP X pins σ Q) (.ref p) s3.heap.objs.size) { s3 with heap := pushCells (s3.heap.push { cls := .type "dict", data := .dict #[] }) scope.names }
  generalize hce : compEnvC scope (cellsFrom (s3.heap.objs.size + 1) scope.names (cloFrom X.env.cells scope.names [])) s3.heap.objs.size X.env = ce at I4 pg pt pe ⊢
  have cL : ce.locals = s3.heap.objs.size := by rw [← hce] <;> rfl
  generalize hs4 : ({ s3 with heap := pushCells (s3.heap.push { cls := .type "dict", data := .dict #[] }) scope.names } : Shared) = s4 at I4 ⊢
  have st4 : tn 0 s4.heap := T.keep _ _ _ st3 fun b _ o e => by rw [← hs4]; exact pushCells_keeps _ _ _ _ (Heap.get?_push_of_some _ e)
  have stat : ∀ {σ' : L2.St} {H' : Hp} {s' : Shared}, L2.Inv (X.blk s3 H3 scope ce fp) [] σ' H' s' → (∀ b ∈ fp, H' b = none) → ∀ b ∈ fp, FpOk (X.blk s3 H3 scope ce fp) [] H' b := fun {σ' H' s'} I' hn b hb =>
    ⟨hn b hb, (I'.ok.exf b hb).1, I'.ok.exfs b hb, .inl hb, fun x c e => (I'.ok.exf b hb).2 x c e, fun r hr => absurd (show r ∈ ([] : List (Addr × Obj)) ++ [] from hr) (by simp)⟩
  refine codeAny_compStart_set ?loop (T.self X.A 0 _ _ _ st4 ?loop)
  refine compLoopS_any (fun n s' => ∃ i H', L2.Inv (X.blk s3 H3 scope ce fp) [] (wipe σ (own.map (·.2))) H' s' ∧ tn i s'.heap ∧ (∀ b ∈ fp, H' b = none) ∧ W i n H') ?_ m0 ⟨0, H3, I4, st4, nfp, w0⟩
  rintro n s5 ⟨i, H5, I5, st5, n5, w5⟩
  rcases turn i n H5 w5 with ⟨stop, qq⟩ | ⟨go, Nx, hNx, step⟩
  · refine thnF (T.done (X.blk s3 H3 scope ce fp) rfl rfl rfl hc i [] s5 _ H5 (fun _ _ => False) I5 (stat I5 n5) st5 stop) fun r s6 ⟨hr, I6⟩ => ?_
    subst hr
    have I7 : L2.Inv X pins σ H5 s6 := I3.call' (ch := fp) I6.os I6.base I6.hok I6.bare fun b hb =>
      let ⟨_, a1, _, a3, a4, a5⟩ := (f3 b hb).1
      ⟨a3, a1, a4, a5⟩
    have nC : H5 s3.heap.objs.size = none := cL ▸ I6.free
    obtain ⟨m, hn, _⟩ := I6.loc
    have hn : s6.heap.Ns s3.heap.objs.size m := cL ▸ hn
    obtain ⟨a0, a1, a2, a3, a4, a5⟩ := I3.fpOk (H' := H5) (Nat.le_refl _) nC
    exact ⟨m, hn, fun h9 sb => ⟨.ref p, H5, I7.turned (t' := s6.toks) (fun b o hb e => (sb.2 b hb).trans e) a0 a1 a3 a4 a5, rfl, qq⟩⟩
  · refine thnF (T.item (X.blk s3 H3 scope ce fp) rfl rfl rfl hc i [] s5 _ H5 (fun _ _ => False) I5 (stat I5 n5) st5 go) fun r s6 ⟨u, hr, h6⟩ => ?_
    subst hr
    refine thnF h6 fun _ s7 ⟨x, H7, I7, r7, y7, st7, n7⟩ => ?_
    refine thnF (pg.run _ s7 _ H7 x u _ (I7.pinned (stat I7 n7) (T.obj _ _ st7)) r7 (step x H7 y7)) fun _ s8 ⟨σ8, H8, I8, hw8, q8⟩ => ?_
    refine thnF (pt.run _ s8 σ8 H8 _ I8 q8) fun b s9 ⟨H9, I9, q9⟩ => ?_
    have fin : ∀ {s' : Shared} {H' : Hp}, L2.Inv (X.blk s3 H3 scope ce fp) ([] ++ pinsAt fp s7.heap) σ8 H' s' → Nx H' → ∃ m, m < n ∧ ∃ i H', L2.Inv (X.blk s3 H3 scope ce fp) [] (wipe σ (own.map (·.2))) H' s' ∧ tn i s'.heap ∧ (∀ b ∈ fp, H' b = none) ∧ W i m H' := fun {s' H'} I' nx => by
      obtain ⟨m', hm, w'⟩ := hNx H' nx
      have stays : ∀ b ∈ fp, ∀ o, s7.heap.get? b = some o → s'.heap.get? b = some o ∧ H' b = none := fun b hb o e => by
        obtain ⟨z1, z2, _⟩ := I'.pin (b, o) (List.mem_append_right _ (List.mem_append_right _ (mem_pinsAt hb e)))
        exact ⟨z1, z2⟩
      refine ⟨m', hm, i + 1, H', (I'.unpinned (pins := [])).weak (by rw [← hw8, wipe_length]) fun j v e => ?_, T.keep _ _ _ st7 fun b hb o e => (stays b hb o e).1, fun b hb => ?_, w'⟩
      · rw [← hw8] at e
        exact (wipe_some e).1
      · obtain ⟨o, e, _⟩ := T.obj _ _ st7 b hb
        exact (stays b hb o e).2
    cases b with
    | false =>
      rw [if_neg Bool.false_ne_true] at q9 ⊢
      exact fin I9 q9
    | true =>
      rw [if_pos rfl] at q9 ⊢
      refine thnF (pe.run _ s9 σ8 H9 _ I9 q9) fun z s10 ⟨yv, H10, I10, r10, k, M, n0, ey, h11, hz, nx⟩ => ?_
      subst ey
      obtain ⟨tk, rfl⟩ := (show ∃ t, z = Value.int k t from r10)
      exact addI_ok (X := X.blk s3 H3 scope ce fp) I10 h11 hz fun s11 I11 => fin I11 nx
end
/-- without doubles, in the order of their coming -/
def nubI (ns : List Int) : List Int := ns.foldl (fun acc k => if k ∈ acc then acc else acc ++ [k]) []
theorem nubI_snoc (ns : List Int) (k : Int) : nubI (ns ++ [k]) = if k ∈ nubI ns then nubI ns else nubI ns ++ [k] := by
  unfold nubI
  rw [List.foldl_append]
  rfl
theorem nub_fold : ∀ (ns acc : List Int), acc.Nodup → (ns.foldl (fun acc k => if k ∈ acc then acc else acc ++ [k]) acc).Nodup ∧ ∀ k, k ∈ ns.foldl (fun acc k => if k ∈ acc then acc else acc ++ [k]) acc ↔ k ∈ acc ∨ k ∈ ns
  | [], acc, h => ⟨h, fun k => by simp⟩
  | n :: ns, acc, h => by
    rw [List.foldl_cons]
    by_cases q : n ∈ acc
    · rw [if_pos q]
      obtain ⟨h1, h2⟩ := nub_fold ns acc h
      refine ⟨h1, fun k => ?_⟩
      rw [h2 k, List.mem_cons]
      constructor
      · rintro (z | z)
        · exact .inl z
        · exact .inr (.inr z)
      · rintro (z | z | z)
        · exact .inl z
        · exact .inl (z ▸ q)
        · exact .inr z
    · rw [if_neg q]
      have hn : (acc ++ [n]).Nodup := by
        rw [List.nodup_append]
        refine ⟨h, by simp, fun a ha b hb => ?_⟩
        rw [List.mem_singleton] at hb
        subst hb
        exact fun z => q (z ▸ ha)
      obtain ⟨h1, h2⟩ := nub_fold ns (acc ++ [n]) hn
      refine ⟨h1, fun k => ?_⟩
      rw [h2 k, List.mem_cons, List.mem_append, List.mem_singleton]
      constructor
      · rintro ((z | z) | z)
        · exact .inl z
        · exact .inr (.inl z)
        · exact .inr (.inr z)
      · rintro (z | z | z)
        · exact .inl (.inl z)
        · exact .inl (.inr z)
        · exact .inr z
theorem nubI_nd (ns : List Int) : (nubI ns).Nodup := (nub_fold ns [] .nil).1
theorem nubI_mem (ns : List Int) (k : Int) : k ∈ nubI ns ↔ k ∈ ns := by
  have h := (nub_fold ns [] .nil).2 k
  unfold nubI
  rw [h]
  simp
theorem nub_len : ∀ (ns acc : List Int), (ns.foldl (fun acc k => if k ∈ acc then acc else acc ++ [k]) acc).length ≤ acc.length + ns.length
  | [], acc => Nat.le_refl _
  | n :: ns, acc => by
    rw [List.foldl_cons, List.length_cons]
    have h := nub_len ns (if n ∈ acc then acc else acc ++ [n])
    split at h <;> rename_i q
    · rw [if_pos q]; omega
    · rw [if_neg q]
      rw [List.length_append, List.length_singleton] at h
      omega
theorem le_nd_lt : ∀ {l : List Int}, l.Pairwise (· ≤ ·) → l.Nodup → l.Pairwise (· < ·)
  | [], _, _ => .nil
  | x :: l, h, nd => by
    have h' := List.pairwise_cons.mp h
    have n' := List.nodup_cons.mp nd
    exact List.pairwise_cons.mpr ⟨fun y hy => by
      have a := h'.1 y hy
      have b : x ≠ y := fun z => n'.1 (z ▸ hy)
      omega, le_nd_lt h'.2 n'.2⟩
/-- the set's list -/
def setI (ns : List Int) : List Int := sortI (nubI ns)
theorem setI_lt (ns : List Int) : (setI ns).Pairwise (· < ·) := le_nd_lt (sortI_sorted _) ((sortI_perm _).nodup_iff.mpr (nubI_nd ns))
theorem setI_mem (ns : List Int) (k : Int) : k ∈ setI ns ↔ k ∈ ns := by
  unfold setI
  rw [(sortI_perm _).mem_iff, nubI_mem]
theorem lt_uniq : ∀ {l m : List Int}, l.Pairwise (· < ·) → m.Pairwise (· < ·) → (∀ k, k ∈ l ↔ k ∈ m) → l = m
  | [], [], _, _, _ => rfl
  | [], y :: m, _, _, h => absurd ((h y).mpr List.mem_cons_self) (by simp)
  | x :: l, [], _, _, h => absurd ((h x).mp List.mem_cons_self) (by simp)
  | x :: l, y :: m, hl, hm, h => by
    have hl' := List.pairwise_cons.mp hl
    have hm' := List.pairwise_cons.mp hm
    have e : x = y := by
      have h1 := (h x).mp List.mem_cons_self
      have h2 := (h y).mpr List.mem_cons_self
      rcases List.mem_cons.mp h1 with e | e
      · exact e
      · rcases List.mem_cons.mp h2 with e2 | e2
        · exact e2.symm
        · have a := hm'.1 x e
          have b := hl'.1 y e2
          omega
    subst e
    rw [lt_uniq hl'.2 hm'.2 fun k => ?_]
    have hk := h k
    rw [List.mem_cons, List.mem_cons] at hk
    constructor
    · intro z
      rcases hk.mp (.inr z) with e | e
      · subst e
        have := hl'.1 k z
        omega
      · exact e
    · intro z
      rcases hk.mpr (.inr z) with e | e
      · subst e
        have := hm'.1 k z
        omega
      · exact e
abbrev FN := FEn → FRow → Option (List Int × FRow)
def tSet (K : PySem.W.Frag) (w : World) (fn : FN) : TE := fun σ H Q => ∃ g O env x ns x', FSt K g O σ H env x ∧ fn env x = some (ns, x') ∧
  ∀ p H' M, FSt K g (oAdd O p) σ H' env x' → Le g H H' → H p = none → H' p = some (SetIO w p M (nubI ns).length) → (∀ k, M k = true ↔ k ∈ ns) → ns.length < 64 → Q (.ref p) H'
def nSet (f : FA) (gt : FGt) (t : FT) (fe : FE) (vs : List Nat) : FN := fun env x => match f env x with
  | some (ds, x1) => match compL gt t fe (wipeE env vs) ds x1 with
    | some (rs, x2) => match intsD rs with
      | some ns => if ns.length < 64 then some (ns, x2) else none
      | none => none
    | none => none
  | none => none
theorem set_read {K : PySem.W.Frag} {w : World} {f : FA} {gt : FGt} {t : FT} {fe : FE} {vs : List Nat} {σ : L2.St} {H : Hp} {Q : VK} (h : tSet K w (nSet f gt t fe vs) σ H Q) : tSi w (tI K f) (tG K vs gt) (tT K t) (tE K fe) vs σ H Q := by
  obtain ⟨g, O, env, x, ns, x', S, e, k⟩ := h
  unfold nSet at e
  split at e
  · rename_i ds x1 e1
    split at e
    · rename_i rs x2 e2
      split at e
      · rename_i ns' e0
        split at e
        · rename_i hl
          cases e
          refine ⟨g, O, env, x, ds, x1, S, e1, fun J more H1 S1 l1 wk p hp => ?_⟩
          have n1 := S1.newp hp
          have hp0 : H p = none := Le.gone l1 hp S1.unadd
          have hne : ∀ (j : Nat) d b, env[j]? = some (.ow d) → σ[j]? = some (some (.ref b)) → b ≠ p := fun j d b h1 h2 => own_ne S1 hp h1 h2
          refine ⟨fun i m H2 => m = ds.length - i ∧ i ≤ ds.length ∧ Le g H H2 ∧ ∃ x M dn rest rd, FSt K (g.add more) (oAdd O p) σ H2 env x ∧ H2 p = some (SetIO w p M (nubI dn).length) ∧ (∀ k, M k = true ↔ k ∈ dn) ∧ compL gt t fe (wipeE env vs) (ds.drop i) x = some (rd, x') ∧ intsD rd = some rest ∧ dn ++ rest = ns,
            ⟨_, rfl, Nat.zero_le _, l1.trans (.of (same_upd hp)), x1, _, [], ns, rs, S1.own hp True.intro, upd_same, (fun k => by simp), e2, e0, rfl⟩, fun i m H2 hW => ?_⟩
          obtain ⟨rfl, hil, lH, x, M, dn, rest, rd, S2, hacc, hM, e, ei, er⟩ := hW
          obtain ⟨wgo, wst⟩ := wk _ σ H2 env x i S2
          by_cases hlt : i < ds.length
          · have hd : ds[i]? = some ds[i] := List.getElem?_eq_getElem hlt
            obtain ⟨go, yl⟩ := wgo _ hd
            rw [drop_get hd] at e
            refine .inr ⟨go, fun H2 => i + 1 ≤ ds.length ∧ Le g H H2 ∧ ∃ x M dn rest rd, FSt K (g.add more) (oAdd O p) σ H2 env x ∧ H2 p = some (SetIO w p M (nubI dn).length) ∧ (∀ k, M k = true ↔ k ∈ dn) ∧ compL gt t fe (wipeE env vs) (ds.drop (i + 1)) x = some (rd, x') ∧ intsD rd = some rest ∧ dn ++ rest = ns,
              fun H' hN => ⟨ds.length - (i + 1), by omega, rfl, hN.1, hN.2⟩, fun v H3 hy => ?_⟩
            obtain ⟨sm, rv⟩ := yl v H3 hy
            unfold compL at e
            split at e
            · cases e
            · rename_i env1 e3
              have S3 := S2.same sm
              refine ⟨g.add more, oAdd O p, wipeE env vs, x, ds[i], env1, S3.wiped vs, rv, e3, fun σ1 w1 S4 => ⟨w1.trans (wipe_wipe σ vs), ?_⟩⟩
              split at e
              · rename_i xb e4
                split at e
                · rename_i r x3 e5
                  split at e
                  · rename_i rs' x4 e6
                    cases e
                    unfold intsD at ei
                    split at ei
                    · rename_i z; cases z
                    · rename_i kk rr z
                      cases z
                      split at ei
                      · rename_i rest' ei'
                        cases ei
                        refine ⟨g.add more, oAdd O p, env1, x, _, xb, S4, e4, fun H5 S5 l5 => ?_⟩
                        refine iteT ?_
                        refine ⟨g.add more, oAdd O p, env1, xb, _, x3, S5, e5, fun y H6 S6 l6 r6 => ?_⟩
                        cases r6
                        have l7 : Le (g.add more) H2 H6 := (Le.of sm).trans (l5.trans l6)
                        have S7 := S2.step l7 fun r hr => (S6.row r hr).2.2
                        have hacc' := l7 p _ n1.2 hacc
                        have hlen : (nubI dn).length ≤ dn.length := by
                          have z := nub_len dn []
                          rw [List.length_nil, Nat.zero_add] at z
                          exact z
                        have ll : dn.length < 64 := by
                          have h2 : (dn ++ kk :: rest').length = ns.length := by rw [er]
                          rw [List.length_append, List.length_cons] at h2
                          omega
                        have hnub : (if M kk = true then (nubI dn).length else (nubI dn).length + 1) = (nubI (dn ++ [kk])).length := by
                          rw [nubI_snoc]
                          by_cases q : kk ∈ dn
                          · rw [if_pos ((hM kk).mpr q), if_pos ((nubI_mem dn kk).mpr q)]
                          · rw [if_neg (fun z => q ((hM kk).mp z)), if_neg (fun z => q ((nubI_mem dn kk).mp z)), List.length_append, List.length_singleton]
                        refine ⟨kk, M, _, rfl, hacc', Nat.lt_of_le_of_lt (show (nubI dn).length + 1 ≤ 64 by omega) (by decide), hlt, ?_, x3, _, dn ++ [kk], rest', rs', S7.upd1 (.inr rfl) n1.1 n1.2 True.intro hne, by rw [upd_same, hnub], fun k => ?_, e6, ei', by rw [List.append_assoc]; exact er⟩
                        · intro c u hR e
                          have z : c ≠ p := fun z => by rw [z, hp0] at e; cases e
                          rw [upd_ne z]
                          exact l7 c u hR (lH c u hR e)
                        · rw [Bool.or_eq_true, hM k, List.mem_append, List.mem_singleton, decide_eq_true_iff]
                      · cases ei
                    · cases ei
                  · cases e
                · cases e
              · rename_i xb e4
                refine ⟨g.add more, oAdd O p, env1, x, _, xb, S4, e4, fun H5 S5 l5 => ?_⟩
                refine iteF ?_
                have l7 : Le (g.add more) H2 H5 := (Le.of sm).trans l5
                have S7 := S2.step l7 fun r hr => (S5.row r hr).2.2
                exact ⟨hlt, fun c u hR e => l7 c u hR (lH c u hR e), xb, M, dn, rest, rd, S7, l7 p _ n1.2 hacc, hM, e, ei, er⟩
              · cases e
          · have hi : i = ds.length := by omega
            rw [hi, List.drop_length] at e
            unfold compL at e
            cases e
            cases ei
            rw [List.append_nil] at er
            subst er
            exact .inl ⟨wst hi, k p H2 M S2.unadd lH hp0 hacc hM hl⟩
        · cases e
      · cases e
    · cases e
  · cases e
structure SN (X : Cx) (e : Expr) (f : FN) : Prop where
  out : PE X e (tSet X.K X.w f)
section
variable {X : Cx} {a b c e : Expr} {es : List Expr} {fa fb fc f : FE} {pos : Pos}
theorem sn_comp {elt tg iter : Expr} {ifs : List Expr} {scope : Scope} {own : List (Str × Nat)} {f : FA} {gt : FGt} {t : FT} {fe : FE} (hc : X.calm = true) (hN : X.N.Nodup) (hi : SI X tg iter f) (ok : BlkOk X.N X.env.scope scope own)
    (hg : ∀ (s : Shared) (H : Hp) (C : Addr) (cl : List (Str × Addr)) (fp : List Addr), SG (X.blk s H scope (compEnvC scope cl C X.env) fp) tg (own.map (·.2)) gt)
    (ht : ∀ (s : Shared) (H : Hp) (C : Addr) (cl : List (Str × Addr)) (fp : List Addr), STs (X.blk s H scope (compEnvC scope cl C X.env) fp) ifs t)
    (he : ∀ (s : Shared) (H : Hp) (C : Addr) (cl : List (Str × Addr)) (fp : List Addr), SE (X.blk s H scope (compEnvC scope cl C X.env) fp) elt fe) (hs : ∀ x, foldedSetIterable iter X.env x = pure x := by intro _; rfl) :
    SN X (.SetComp elt [⟨tg, iter, ifs, 0⟩] scope pos) (nSet f gt t fe (own.map (·.2))) :=
  ⟨PEw (pe_si hc hN hi.out ok (fun s H C cl fp => (show PG _ tg (tG X.K (own.map (·.2)) gt) from (hg s H C cl fp).out)) (fun s H C cl fp => (show PTs _ ifs (tT X.K t) from (ht s H C cl fp).out)) (fun s H C cl fp => (show PE _ elt (tE X.K fe) from (he s H C cl fp).out)) hs) fun σ H Q h => set_read h⟩
def rSrtS (w : World) : List V → Hp → VK → Prop := fun vs H Q => ∃ (p : Addr) (M : Int → Bool) (n : Nat), vs = [.ref p] ∧ H p = some (SetIO w p M n) ∧ n < 64 ∧ ∀ (ns : List Int) (q : Addr), ns.Pairwise (· < ·) → (∀ k, k ∈ ns ↔ M k = true) → H q = none → Q (.ref q) (upd H q (.lst (ns.map V.int)))
theorem cr_srtS (hc : X.calm = true) : CallR X (.builtin "sorted") (rSrtS X.w) := by
  intro pins s σ H vs us Q I r h
  obtain ⟨p, M, n, rfl, hp, h64, q⟩ := h
  rw [Vals.ref1 r]
  have R : SetR X.w s.heap p M n := (I.hok p _ hp).1
  refine sorted_set R (I.ok.hd hc) h64 fun s' l out c ns keep hg ho hl hget hI hlt hmem hn => ?_
  have hlen : (ns.map V.int).length ≤ sizeLine := by
    rw [List.length_map, hn]
    exact maxLen_ok (Nat.le_trans (Nat.le_of_lt h64) (by decide))
  have new : ObjOk X.prog X.w (upd H l (.lst (ns.map V.int))) s'.heap l (.lst (ns.map V.int)) := ⟨hlen, out.toList, c, vals_of_ints hI, by rw [hget]⟩
  have I1 : L2.Inv X pins σ (upd H l (.lst (ns.map V.int))) s' := by
    exact I.call' (ch := []) ho (Un.laid keep hl (I.hok.fresh hl)) (I.hok.laid keep hl new) (by rw [hg]; exact I.bare) fun b hb => nomatch hb
  exact ⟨.ref l, _, I1, rfl, q ns l hlt hmem (I.hok.fresh hl)⟩
/-- sorted({..}) -/
def fSrtS (f : FN) : FE := fun env x => match f env x with
  | some (ns, x1) => some (.list ((setI ns).map .int), x1)
  | none => none
theorem se_srtS {n : FN} {p : Pos} (hc : X.calm = true) (hg : Gl X "sorted") (hm : X.mg "sorted" = none) (ha : SN X a n) (hs : starEach [a] X.env = (false, eval a X.env) :: starEach [] X.env := by rfl) : SE X (.Call (.Name "sorted" p) [a] [] pos) (fSrtS n) := by
  refine ⟨PEw (pe_callB (cr_srtS hc) hg hm (by decide +kernel) (pa_cons ha.out pa_nil hs) (by decide) (by decide) hs) fun σ H Q h => ?_⟩
  obtain ⟨g, O, env, x, d, x', S, e, k⟩ := h
  unfold fSrtS at e
  split at e
  · rename_i ns x1 e1
    cases e
    refine ⟨g, O, env, x, ns, x', S, e1, fun p H1 M S1 l1 hp0 hp hM h64 => ⟨p, M, _, rfl, hp, ?_, fun ns' q h1 h2 hq => ?_⟩⟩
    · have z := nub_len ns []
      rw [List.length_nil, Nat.zero_add] at z
      exact Nat.lt_of_le_of_lt z h64
    · have e2 : ns' = setI ns := lt_uniq h1 (setI_lt ns) fun k => by rw [h2 k, hM k, setI_mem]
      subst e2
      have S2 := S.shrink S1 fun a ha => .inl ha
      have sm := same_upd (o := .lst ((setI ns).map V.int)) hq
      exact k _ _ (S2.same sm) (l1.trans (.of sm)) (.lst (S2.notO hq) upd_same (RpA.ofInts _))
  · cases e
end
end RT

namespace RT
open PySem PySem.Spec PyProof.Rows L2
/-! ### sorted, of tuples of ints in 0 .. 63 of one length -/
def okTup (n : Nat) (ns : List Int) : Bool := decide (ns.length = n) && ns.all fun i => decide (0 ≤ i ∧ i < 64)
def tupsD (n : Nat) : List D → Option (List (List Int))
  | [] => some []
  | .tuple ds :: r => match intsD ds, tupsD n r with
    | some ns, some rs => if okTup n ns then some (ns :: rs) else none
    | _, _ => none
  | _ => none
def tupD (ns : List Int) : D := .tuple (ns.map .int)
theorem tupsD_ok {n : Nat} : ∀ {ds : List D} {rs : List (List Int)}, tupsD n ds = some rs → ds = rs.map tupD ∧ ∀ r ∈ rs, okTup n r = true
  | [], _, h => by cases h; exact ⟨rfl, fun r h => nomatch h⟩
  | d :: ds, rs, h => by
    unfold tupsD at h
    split at h
    · rename_i e; cases e
    · rename_i e
      cases e
      split at h
      · rename_i ns' rs' h1 h2
        split at h
        · rename_i h3
          cases h
          obtain ⟨a, b⟩ := tupsD_ok h2
          refine ⟨by rw [a, ints_ok h1]; rfl, fun r hr => ?_⟩
          rcases List.mem_cons.mp hr with rfl | hr
          · exact h3
          · exact b r hr
        · cases h
      · cases h
    · cases h
abbrev cdT (ns : List Int) : Int := TS.code 64 ns
def insT (n : List Int) : List (List Int) → List (List Int)
  | [] => [n]
  | m :: ms => if cdT n ≤ cdT m then n :: m :: ms else m :: insT n ms
def sortT : List (List Int) → List (List Int)
  | [] => []
  | n :: ns => insT n (sortT ns)
theorem insT_perm (n : List Int) : ∀ ms : List (List Int), (insT n ms).Perm (n :: ms)
  | [] => .refl _
  | m :: ms => by
    unfold insT
    split
    · exact .refl _
    · exact ((insT_perm n ms).cons m).trans (.swap n m ms)
theorem sortT_perm : ∀ ns : List (List Int), (sortT ns).Perm ns
  | [] => .refl _
  | n :: ns => (insT_perm n _).trans ((sortT_perm ns).cons n)
theorem insT_sorted (n : List Int) : ∀ ms : List (List Int), ms.Pairwise (fun a b => cdT a ≤ cdT b) → (insT n ms).Pairwise (fun a b => cdT a ≤ cdT b)
  | [], _ => by simp [insT]
  | m :: ms, h => by
    unfold insT
    have h' := List.pairwise_cons.mp h
    split
    · rename_i hn
      refine List.pairwise_cons.mpr ⟨fun a ha => ?_, h⟩
      rcases List.mem_cons.mp ha with rfl | ha
      · exact hn
      · exact Int.le_trans hn (h'.1 a ha)
    · rename_i hn
      refine List.pairwise_cons.mpr ⟨fun a ha => ?_, insT_sorted n ms h'.2⟩
      rcases List.mem_cons.mp ((insT_perm n ms).mem_iff.mp ha) with rfl | ha
      · omega
      · exact h'.1 a ha
theorem sortT_sorted : ∀ ns : List (List Int), (sortT ns).Pairwise (fun a b => cdT a ≤ cdT b)
  | [] => .nil
  | n :: ns => insT_sorted n _ (sortT_sorted ns)
theorem okTup_bd {n : Nat} {ns : List Int} (h : okTup n ns = true) : ns.length = n ∧ TS.Bd 64 ns := by
  unfold okTup at h
  rw [Bool.and_eq_true] at h
  exact ⟨of_decide_eq_true h.1, fun m hm => of_decide_eq_true (List.all_eq_true.mp h.2 m hm)⟩
theorem code_inj : ∀ {a b : List Int}, a.length = b.length → TS.Bd 64 a → TS.Bd 64 b → cdT a = cdT b → a = b
  | [], [], _, _, _, _ => rfl
  | [], _ :: _, h, _, _, _ => by simp at h
  | _ :: _, [], h, _, _, _ => by simp at h
  | x :: a, y :: b, h, ha, hb, e => by
    have hl : a.length = b.length := by simpa using h
    have exy : x = y := by
      by_cases h1 : x < y
      · have q := TS.code_lt hl ha.tail hb.tail h1
        have e : TS.code 64 (x :: a) = TS.code 64 (y :: b) := e
        omega
      · by_cases h2 : y < x
        · have q := TS.code_lt hl.symm hb.tail ha.tail h2
          have e : TS.code 64 (x :: a) = TS.code 64 (y :: b) := e
          omega
        · omega
    subst exy
    have e2 : cdT a = cdT b := by
      have e : x * 64 ^ a.length + TS.code 64 a = x * 64 ^ b.length + TS.code 64 b := e
      rw [hl] at e
      show TS.code 64 a = TS.code 64 b
      omega
    rw [code_inj hl ha.tail hb.tail e2]
theorem codes_uniq {n : Nat} : ∀ {l m : List (List Int)}, (∀ r ∈ l, okTup n r = true) → l.Perm m → l.Pairwise (fun a b => cdT a ≤ cdT b) → m.Pairwise (fun a b => cdT a ≤ cdT b) → l = m
  | [], m, _, h, _, _ => h.nil_eq
  | x :: l, [], _, h, _, _ => absurd h.length_eq (by simp)
  | x :: l, y :: m, ok, h, hl, hm => by
    have hl' := List.pairwise_cons.mp hl
    have hm' := List.pairwise_cons.mp hm
    have okm : ∀ r ∈ y :: m, okTup n r = true := fun r hr => ok r (h.mem_iff.mpr hr)
    have e : cdT x = cdT y := by
      have h1 : cdT y ≤ cdT x := by
        rcases List.mem_cons.mp (h.mem_iff.mp List.mem_cons_self) with e | e
        · rw [e]; exact Int.le_refl _
        · exact hm'.1 x e
      have h2 : cdT x ≤ cdT y := by
        rcases List.mem_cons.mp (h.mem_iff.mpr List.mem_cons_self) with e | e
        · rw [e]; exact Int.le_refl _
        · exact hl'.1 y e
      omega
    have exy : x = y := by
      obtain ⟨a1, a2⟩ := okTup_bd (ok x List.mem_cons_self)
      obtain ⟨b1, b2⟩ := okTup_bd (okm y List.mem_cons_self)
      exact code_inj (a1.trans b1.symm) a2 b2 e
    subst exy
    rw [codes_uniq (fun r hr => ok r (List.mem_cons_of_mem _ hr)) h.cons_inv hl'.2 hm'.2]
theorem RpA.perm {K : PySem.W.Frag} {O : Addr → Prop} {H : Hp} {xs ys : List V} (p : ys.Perm xs) : ∀ {ds : List D}, RpA K O H xs ds → ∃ es, es.Perm ds ∧ RpA K O H ys es := by
  induction p with
  | nil => exact fun r => ⟨_, .refl _, r⟩
  | cons x _ ih =>
    intro ds r
    cases r with
    | cons a b =>
      obtain ⟨es, p, q⟩ := ih b
      exact ⟨_, p.cons _, .cons a q⟩
  | swap x y l =>
    intro ds r
    cases r with
    | cons a r =>
      cases r with
      | cons b r => exact ⟨_, .swap _ _ _, .cons b (.cons a r)⟩
  | trans _ _ ih1 ih2 =>
    intro ds r
    obtain ⟨es, p, q⟩ := ih2 r
    obtain ⟨fs, p2, q2⟩ := ih1 q
    exact ⟨fs, p2.trans p, q2⟩
theorem tupD_inj {a b : List Int} (h : tupD a = tupD b) : a = b := by
  have h : a.map D.int = b.map D.int := by unfold tupD at h; injection h
  exact (List.map_inj_right (fun x y e => by injection e)).mp h
def gSortT : List D → Option D
  | [.list ds] => match ds with
    | .tuple xs :: _ => match tupsD xs.length ds with
      | some rs => if 1 ≤ xs.length ∧ rs.length < 64 then some (.list ((sortT rs).map tupD)) else none
      | none => none
    | [] => some (.list [])
    | _ => none
  | _ => none
section
variable {X : Cx} {a b c e : Expr} {es : List Expr} {fa fb fc f : FE} {pos : Pos}
theorem cr_sortTT : CallR X (.builtin "sorted") fun vs H Q => ∃ d, 1 ≤ d ∧ rSortU X.K d 64 vs H Q := by
  intro pins s σ H vs us Q I r h
  obtain ⟨d, hd, h⟩ := h
  exact cr_sortT hd pins s σ H vs us Q I r h
theorem cd_sortT : CallD X (.builtin "sorted") gSortT := by
  refine CallD.by (cr_sortedI.or cr_sortTT) fun g O σ env x ds z H vs Q S r e k => ?_
  unfold gSortT at e
  split at e
  · split at e
    · split at e
      · split at e
        · rename_i xs tl rest rs q hh
          cases e
          cases r with
          | cons r r' =>
            cases r'
            obtain ⟨p, ys, rfl, hp, rx⟩ := r.lst
            obtain ⟨e1, ok⟩ := tupsD_ok q
            have hlen : ys.length = rs.length := by rw [rx.length, e1, List.length_map]
            have itm : ∀ y d, Rp X.K O H y d → ∀ ns, d = tupD ns → TupI X.K H y ns := fun y d ry ns ed => by
              subst ed
              obtain ⟨t, us, rfl, ht, rt⟩ := ry.tupAt
              rw [rt.ints] at ht
              exact ⟨t, rfl, .of ht⟩
            refine .inr ⟨xs.length, hh.1, p, ys, rfl, .of hp, by rw [hlen]; exact hh.2, fun y hy => ?_, fun zs l hperm hsort hl => ?_⟩
            · obtain ⟨i, hi⟩ := List.getElem?_of_mem hy
              obtain ⟨d, hd, rd⟩ := rx.get' hi
              rw [e1] at hd
              obtain ⟨ns, hns, rfl⟩ := List.mem_map.mp (List.mem_of_getElem? hd)
              obtain ⟨b1, b2⟩ := okTup_bd (ok ns hns)
              exact ⟨ns, itm y _ rd ns rfl, b1, b2⟩
            · obtain ⟨es, pe, re⟩ := rx.perm hperm
              rw [e1] at pe
              obtain ⟨ms, rfl, pm⟩ : ∃ ms : List (List Int), es = ms.map tupD ∧ ms.Perm rs := by
                have hm : ∀ e ∈ es, ∃ ns, e = tupD ns := fun e he => by
                  obtain ⟨ns, _, q⟩ := List.mem_map.mp (pe.mem_iff.mp he)
                  exact ⟨ns, q.symm⟩
                have : ∀ es : List D, (∀ e ∈ es, ∃ ns, e = tupD ns) → ∃ ms : List (List Int), es = ms.map tupD := fun es => by
                  induction es with
                  | nil => exact fun _ => ⟨[], rfl⟩
                  | cons e es ih =>
                    intro h
                    obtain ⟨n, rfl⟩ := h e List.mem_cons_self
                    obtain ⟨m, rfl⟩ := ih fun e he => h e (List.mem_cons_of_mem _ he)
                    exact ⟨n :: m, rfl⟩
                obtain ⟨ms, rfl⟩ := this es hm
                refine ⟨ms, rfl, ?_⟩
                have key : ∀ l : List (List Int), (l.map tupD).map (fun d => match d with | .tuple ds => (intsD ds).getD [] | _ => []) = l := fun l => by
                  rw [List.map_map]
                  conv => rhs; rw [← List.map_id l]
                  refine List.map_congr_left fun a _ => ?_
                  show (intsD (a.map D.int)).getD [] = a
                  rw [ints_map]
                  rfl
                have := pe.map (fun d => match d with | D.tuple ds => (intsD ds).getD [] | _ => [])
                rw [key, key] at this
                exact this
              have srt : ms.Pairwise (fun a b => cdT a ≤ cdT b) := by
                have go : ∀ {zs : List V} {ms : List (List Int)}, RpA X.K O H zs (ms.map tupD) → zs.Pairwise (fun x y => ∀ n m, TupI X.K H x n → TupI X.K H y m → TS.code 64 n ≤ TS.code 64 m) → ms.Pairwise (fun a b => cdT a ≤ cdT b) := by
                  intro zs ms
                  induction ms generalizing zs with
                  | nil => exact fun _ _ => .nil
                  | cons m ms ih =>
                    intro rz hz
                    cases rz with
                    | cons a b =>
                      have hz' := List.pairwise_cons.mp hz
                      refine List.pairwise_cons.mpr ⟨fun m2 hm2 => ?_, ih b hz'.2⟩
                      obtain ⟨i, hi⟩ := List.getElem?_of_mem (List.mem_map.mpr ⟨m2, hm2, rfl⟩ : tupD m2 ∈ ms.map tupD)
                      obtain ⟨y, hy, ry⟩ := b.get hi
                      exact hz'.1 y (List.mem_of_getElem? hy) m m2 (itm _ _ a m rfl) (itm _ _ ry m2 rfl)
                exact go re hsort
              have e2 : ms = sortT rs := codes_uniq (fun r hr => ok r (pm.mem_iff.mp hr)) (pm.trans (sortT_perm rs).symm) srt (sortT_sorted rs)
              subst e2
              have sm := same_upd (o := .lst zs) hl
              exact k _ _ sm (.lst (S.notO hl) upd_same (re.move (.of sm) .refl))
        · cases e
      · cases e
    · cases e
      cases r with
      | cons r r' =>
        cases r'
        obtain ⟨p, ys, rfl, hp, rx⟩ := r.lst
        cases rx
        refine .inl ⟨p, [], rfl, .of hp, fun ns' l h1 h2 hl => ?_⟩
        have e2 : ns' = [] := h1.eq_nil
        subst e2
        have sm := same_upd (o := .lst []) hl
        exact k _ _ sm (.lst (S.notO hl) upd_same .nil)
    · cases e
  · cases e
/-! ### xs.index(d) -/
def idxD (d : D) : List D → Option Nat
  | [] => none
  | z :: zs => if eqD z d then some 0 else (idxD d zs).map (· + 1)
theorem idxD_ok {d : D} : ∀ {ds : List D} {j : Nat}, idxD d ds = some j → ∃ z, (pyAll ds)[j]? = some z ∧ PyData.eqv z d.py = true ∧ ∀ (m : Nat) z', m < j → (pyAll ds)[m]? = some z' → PyData.eqv z' d.py = false
  | [], _, h => nomatch h
  | x :: ds, j, h => by
    unfold idxD at h
    split at h
    · rename_i q
      cases h
      refine ⟨x.py, by simp [pyAll], q, fun m z' hm => absurd hm (Nat.not_lt_zero m)⟩
    · rename_i q
      cases h2 : idxD d ds with
      | none => rw [h2] at h; cases h
      | some i =>
        rw [h2] at h
        cases h
        obtain ⟨z, a, b, c⟩ := idxD_ok h2
        refine ⟨z, by simpa [pyAll] using a, b, fun m z' hm hz => ?_⟩
        cases m with
        | zero =>
          have e : x.py = z' := by simpa [pyAll] using hz
          rw [← e]
          exact Bool.eq_false_iff.mpr q
        | succ m =>
          have hm : m + 1 < i + 1 := hm
          exact c m z' (by omega) (by simpa [pyAll] using hz)
def fIndex (fa fb : FE) : FE := fBin (fun l d => match l with
  | .list ds => if shapedD (.list ds) && shapedD d then match idxD d ds with
    | some j => some (.int (j : Nat))
    | none => none
    else none
  | _ => none) fa fb
theorem se_index {apos cpos : Pos} (hu : X.A.units + 65 < cLine) (ha : SB X a fa) (hb : SB X b fb)
    (hbase : attributeBase a "index" X.env (eval a X.env) = eval a X.env := by rfl)
    (hfew : ((backTo cpos (starEach (b :: []) X.env)).all (fun x => !x.1) && (backToKw cpos (keywordEach [] X.env)).all (fun x => x.1.isSome)
      && decide ((b :: []).length + ([] : List Keyword).length + (if ([] : List Keyword).isEmpty then 0 else 1) < 30)) = true := by rfl)
    (hline : (apos.endLine == cpos.line) = true := by rfl) (hss : starEach (b :: []) X.env = (false, eval b X.env) :: starEach [] X.env := by rfl) (hplain : (backTo cpos (starEach [] X.env)).any (·.1) = false := by rfl) :
    SE X (.Call (.Attribute a "index" apos) [b] [] cpos) (fIndex fa fb) := by
  refine ⟨PEw (pe_bm PySem.F.plainAttrs_list PySem.F.slot_list_index PySem.F.type_list_index (mt_indexD hu) ha.out (pa_cons hb.out pa_nil hss) hbase hfew hline hss hplain) fun σ H Q h => ?_⟩
  obtain ⟨g, O, env, x, d, x', S, e, k⟩ := h
  obtain ⟨da, x1, db, r, e1, e2, e3, rfl⟩ := fBin_some e
  split at e3
  · rename_i ds
    split at e3
    · rename_i sh
      split at e3
      · rename_i j ej
        cases e3
        obtain ⟨s1, s2⟩ := Bool.and_eq_true_iff.mp sh
        refine ⟨g, O, env, x, _, x1, S, e1, fun v H1 S1 l1 r1 => ?_⟩
        obtain ⟨p, xs, rfl, hp, rx⟩ := r1.lst
        refine ⟨.inl ⟨rfl, _, .of hp⟩, g, O, env, x1, _, x', S1, e2, fun w H2 S2 l2 r2 => ?_⟩
        obtain ⟨z, a1, a2, a3⟩ := idxD_ok ej
        have h3 := (RpB.step S1 l2 r1).dp s1
        simp only [shapedD, D.py] at s1 s2 h3
        exact ⟨p, w, db.py, pyAll ds, j, z, rfl, rfl, h3, r2.dp s2, s1, s2, a1, a2, a3, k _ _ S2 (l1.trans l2) (.int _)⟩
      · cases e3
    · cases e3
  · cases e3
end
/-! ### the law -/
def spLaw (K : PySem.W.Frag) (b : FS) (n : Nat) (seed : Int) : Sp := fun vs H Q _ => ∃ (a : Addr) (ns : List Int) (x' : FRow), vs = [.ref a] ∧ ((∃ o, H a = some (.frz o (.lst (ns.map V.int)))) ∨ SqL K (fun _ => none) a (ns.map V.int)) ∧
  b (.no :: .rw :: List.replicate n .no) ⟨ns, 0, seed, 0⟩ = some (.rt (.bool true), x') ∧ ∀ H', Q (.bl true) H'
theorem ok_law {P : Program} {w : World} {K : PySem.W.Frag} {mg : Str → Option Value} {base : Heap} {x qual n0 n1 : Str} {st : Stmt} {rest : List Stmt} {f : Addr} {fd : FuncData} {more : List Str} {k : Nat} {b : FS} {seed : Int} {i1 i2 i3 : Nat} {p1 p2 p3 p4 p5 p6 pos : Pos}
    (F : Fun K x qual st f fd) (S : FnScope (n0 :: n1 :: more) [n0] (defScope st)) (hb : defBody st = .Assign [.Name n1 p1] (.List [.Name n0 p2, .Constant (.int 0) i1 p3, .Constant (.int seed) i2 p4, .Constant (.int 0) i3 p5] p6) pos :: rest)
    (hs : ∀ (cdv : Value) (A : Around) (outer : List Env) (s : Shared) (H : Hp) (E : XK),
      PS (cxOf CX0 P w K mg base (n0 :: n1 :: more) qual (defScope st) f cdv A outer s H E).nox (.Assign [.Name n1 p1] (.List [.Name n0 p2, .Constant (.int 0) i1 p3, .Constant (.int seed) i2 p4, .Constant (.int 0) i3 p5] p6) pos)
        (tAsg (tLst (tCons (tVar 0) (tCons (tC (.int 0)) (tCons (tC (.int seed)) (tCons (tC (.int 0)) tNil))))) (gName 1)))
    (h : ∀ (cdv : Value) (A : Around) (outer : List Env) (s : Shared) (H : Hp) (E : XK), Room k (A.deeper (envOfC qual (defScope st) s.heap.objs.size f cdv)) → SSs (cxOf CX0 P w K mg base (n0 :: n1 :: more) qual (defScope st) f cdv A outer s H E).nox rest b) :
    FnOk P w K mg base CX0 (k + 1) f fd [n0] (spLaw K b more.length seed) := by
  refine F.ok S (fun vs H Q E h => ?_) (fun cdv A outer s H vs Q E hr hsp => ?_)
  · obtain ⟨a, ns, x', rfl, _⟩ := h
    rfl
  · obtain ⟨a, ns, x', rfl, ha, e, q⟩ := hsp
    rw [hb]
    refine ⟨_, pss_cons (hs cdv A outer s H E) (h cdv A outer s H E hr).out, ?_⟩
    refine ⟨_, rfl, maxLen_ok (show 4 ≤ maxLen by decide), fun p hp => ?_⟩
    refine ⟨⟨fun z => z = p, upd H p (.lst [.ref a, .int 0, .int seed, .int 0]), some p, []⟩, fun z => z = p, .no :: .rw :: List.replicate more.length .no, ⟨ns, 0, seed, 0⟩, .rt (.bool true), x', ?_, e, fun O' σ' H' v env' S' r => ?_⟩
    · refine ⟨fun _ h => h, fun _ h => .inl h, fun z hz => by rw [hz, upd_same]; exact True.intro, Le.refl _ _, fun r hr => ?_, ?_, fun i s e h1 h2 => ?_, fun i j d d' a b ne h1 h2 h3 h4 => ?_, fun r hr => nomatch hr⟩
      · have e : p = r := Option.some.inj hr
        subst e
        refine ⟨rfl, (by show upd H p (.lst [V.ref a, V.int 0, V.int seed, V.int 0]) p ≠ none; rw [upd_same]; exact fun z => nomatch z), a, upd_same, ?_⟩
        rcases ha with ⟨o, ha⟩ | ha
        · refine .inl ⟨o, ?_⟩
          rw [upd_ne (ne_of_none ha hp)]
          exact ha
        · exact .inr ha
      · simp [gName, L2.start]
      · cases i with
        | zero =>
          have e2 := Option.some.inj h2
          subst e2
          exact .no _
        | succ i =>
          cases i with
          | zero =>
            have e2 := Option.some.inj h2
            subst e2
            have e1 := Option.some.inj h1
            subst e1
            exact .rw rfl
          | succ i =>
            have h2 : (List.replicate more.length FSl.no)[i]? = some e := by simpa using h2
            have := (List.mem_replicate.mp (List.mem_of_getElem? h2)).2
            subst this
            exact .no _
      · have at1 : ∀ {i : Nat} {d : OwD}, (FSl.no :: FSl.rw :: List.replicate more.length FSl.no)[i]? ≠ some (.ow d) := fun {i d} z => by
          have z := List.mem_of_getElem? z
          simp at z
        exact absurd h1 at1
    · cases r
      exact q H'
end RT

namespace RT
open PySem PySem.Spec PyProof.Rows L2
/-! ### several stores at once -/
inductive VsOk (K : PySem.W.Frag) (g : FG) (O' : Addr → Prop) (H H' : Hp) : List V → List FSl → Prop
  | nil : VsOk K g O' H H' [] []
  | cons {v : V} {sl : FSl} {vs : List V} {sls : List FSl} : SlOk K g O' H' (some v) sl → (∀ d, sl = .ow d → ∃ p, v = .ref p ∧ H p = none ∧ ∀ (i : Nat) d', sls[i]? = some (.ow d') → vs[i]? ≠ some (.ref p)) → VsOk K g O' H H' vs sls → VsOk K g O' H H' (v :: vs) (sl :: sls)
abbrev FXs := FEn → FRow → Option (List FSl × FRow)
def tXs (K : PySem.W.Frag) (f : FXs) : TA := fun σ H Q => ∃ g O env x sls x', FSt K g O σ H env x ∧ f env x = some (sls, x') ∧
  ∀ O' vs H', FSt K g O' σ H' env x' → Le g H H' → Wid O O' H → (∀ a, O a → O' a) → VsOk K g O' H H' vs sls → Q vs H'
structure SXs (X : Cx) (es : List Expr) (f : FXs) : Prop where
  out : PA X es (tXs X.K f)
def xsNil : FXs := fun _ x => some ([], x)
def xsCons (f : FX) (h : FXs) : FXs := fun env x => match f env x with
  | some (sl, x1) => match h env x1 with
    | some (sls, x2) => some (sl :: sls, x2)
    | none => none
  | none => none
section
variable {K : PySem.W.Frag} {g : FG} {O O' : Addr → Prop} {σ : L2.St} {H H' H1 : Hp} {env : FEn} {x x' : FRow}
theorem VsOk.at {vs : List V} {sls : List FSl} (h : VsOk K g O' H H' vs sls) : ∀ (i : Nat) d, sls[i]? = some (.ow d) → ∃ p, vs[i]? = some (.ref p) ∧ H p = none := by
  induction h with
  | nil => intro i d e; simp at e
  | cons r n _ ih =>
    intro i d e
    cases i with
    | zero =>
      obtain ⟨p, e1, e2, _⟩ := n d (Option.some.inj e)
      subst e1
      exact ⟨p, rfl, e2⟩
    | succ i => exact ih i d (by simpa using e)
theorem VsOk.base {vs : List V} {sls : List FSl} (h : VsOk K g O' H1 H' vs sls) (k : ∀ p, H1 p = none → H p = none) : VsOk K g O' H H' vs sls := by
  induction h with
  | nil => exact .nil
  | cons r n _ ih => exact .cons r (fun d e => let ⟨p, a, b, c⟩ := n d e; ⟨p, a, k p b, c⟩) ih
theorem VsOk.length {vs : List V} {sls : List FSl} (h : VsOk K g O' H H' vs sls) : vs.length = sls.length := by
  induction h with
  | nil => rfl
  | cons _ _ _ ih => rw [List.length_cons, List.length_cons, ih]
def setsV (σ : L2.St) : List Nat → List V → L2.St
  | i :: is, v :: vs => setsV (σ.set i (some v)) is vs
  | _, _ => σ
def setsE (env : FEn) : List Nat → List FSl → FEn
  | i :: is, s :: ss => setsE (env.set i s) is ss
  | _, _ => env
theorem FSt.sets {vs : List V} {sls : List FSl} (v : VsOk K g O' H H' vs sls) : ∀ {σ : L2.St} {env : FEn} (is : List Nat), FSt K g O' σ H' env x' → (∀ (i : Nat) d p, sls[i]? = some (.ow d) → vs[i]? = some (.ref p) → ∀ (j : Nat) d' b, env[j]? = some (.ow d') → σ[j]? = some (some (.ref b)) → b ≠ p) → FSt K g O' (setsV σ is vs) H' (setsE env is sls) x' := by
  induction v with
  | nil => intro σ env is S _; cases is <;> exact S
  | @cons v sl vs sls r n hv ih =>
    intro σ env is S hn
    cases is with
    | nil => exact S
    | cons i is =>
      refine ih is (S.setv i r fun d e => ?_) fun j d p e1 e2 k d' b e3 e4 => ?_
      · obtain ⟨p, e1, e2, _⟩ := n d e
        subst e1
        exact ⟨p, rfl, fun j d' b h1 h2 => hn 0 d p (by rw [e]; rfl) rfl j d' b h1 h2⟩
      · rcases set_at e3 with ⟨z1, z2⟩ | ⟨z1, z2⟩
        · rcases set_at e4 with ⟨z3, z4⟩ | ⟨z3, z4⟩
          · obtain ⟨q, e5, e6, e7⟩ := n d' z2.symm
            have z4 : V.ref b = v := Option.some.inj z4
            rw [e5] at z4
            cases z4
            exact fun z => e7 j d e1 (by rw [z]; exact e2)
          · exact absurd z1 z3
        · rcases set_at e4 with ⟨z3, z4⟩ | ⟨z3, z4⟩
          · exact absurd z3 z1
          · exact hn (j + 1) d p (by simpa using e1) (by simpa using e2) k d' b z2 z4
end
section
variable {X : Cx} {a b c e : Expr} {es : List Expr} {fa fb fc f : FE} {pos : Pos}
theorem sxs_nil : SXs X [] xsNil := by
  refine ⟨PAw pa_nil fun σ H Q h => ?_⟩
  obtain ⟨g, O, env, x, d, x', S, e, k⟩ := h
  cases e
  exact k O _ _ S (Le.refl _ _) .refl (fun _ h => h) .nil
theorem sxs_cons {f : FX} {t : FXs} (h : SX X e f) (ht : SXs X es t) (hs : starEach (e :: es) X.env = (false, eval e X.env) :: starEach es X.env := by rfl) : SXs X (e :: es) (xsCons f t) := by
  refine ⟨PAw (pa_cons h.out ht.out hs) fun σ H Q h => ?_⟩
  obtain ⟨g, O, env, x, sl, x', S, e, k⟩ := h
  unfold xsCons at e
  split at e
  · rename_i s1 x1 e1
    split at e
    · rename_i ss x2 e2
      cases e
      refine ⟨g, O, env, x, s1, x1, S, e1, fun O1 v H1 S1 l1 w1 sub1 r1 n1 => ⟨g, O1, env, x1, ss, x', S1, e2, fun O2 vs H2 S2 l2 w2 sub2 r2 => ?_⟩⟩
      refine k O2 _ H2 S2 (l1.trans l2) (fun a ha => ?_) (fun a ha => sub2 a (sub1 a ha)) (.cons (sl_move S1 l2 w2 sub2 r1) (fun d z => ?_) (r2.base fun p hp => Le.gone l1 hp S1))
      · rcases w2 a ha with z | z
        · exact w1 a z
        · exact .inr (Le.gone l1 z S1)
      · obtain ⟨p, e3, hp⟩ := n1 d z
        subst e3
        refine ⟨p, rfl, hp, fun i d' e4 e5 => ?_⟩
        obtain ⟨q, e6, hq⟩ := r2.at i d' e4
        rw [e5] at e6
        cases e6
        subst z
        cases r1 with
        | ow _ _ _ t =>
          obtain ⟨u, hu⟩ := t.some
          rw [hu] at hq
          cases hq
    · cases e
  · cases e
def sPars (is : List Nat) (f : FXs) : FS := fun env x => match f env x with
  | some (sls, x1) => if sls.length = is.length then some (.nx (setsE env is sls), x1) else none
  | none => none
theorem pars_read {K : PySem.W.Frag} {is : List Nat} {f : FXs} {Dn : Ends} {σ : L2.St} {H : Hp} (h : tS K (sPars is f) Dn σ H) : tXs K f σ H fun vs H' => vs.length = is.length ∧ (∃ g O env x, FSt K g O σ H' env x ∧ ∀ H2, Same H' H2 → Dn.nx (setsV σ is vs) H2) := by
  obtain ⟨g, O, env, x, r, x', S, e, k⟩ := h
  unfold sPars at e
  split at e
  · rename_i sls x1 e1
    split at e
    · rename_i hl
      cases e
      refine ⟨g, O, env, x, sls, x', S, e1, fun O' vs H' S' l w sub v => ⟨by rw [v.length, hl], g, O', env, x', S', fun H2 sm => ?_⟩⟩
      have hn : ∀ (i : Nat) d p, sls[i]? = some (.ow d) → vs[i]? = some (.ref p) → ∀ (j : Nat) d' b, env[j]? = some (.ow d') → σ[j]? = some (some (.ref b)) → b ≠ p := fun i d p h1 h2 j d' b h3 h4 => by
        obtain ⟨q, e2, hq⟩ := v.at i d h1
        rw [h2] at e2
        cases e2
        exact own_ne S hq h3 h4
      exact k O' _ H2 ((FSt.sets v is S' hn).same sm)
    · cases e
  · cases e
theorem ss_par2 {i j : Nat} {n m : Str} {f : FXs} {px py pt : Pos} {kt k2 pt2} (hc : X.calm = true) (hN : X.N.Nodup) (hi : X.N[i]? = some n) (hj : X.N[j]? = some m) (hij : i ≠ j)
    (hx : X.env.scope.names.lookup n = some .local) (hy : X.env.scope.names.lookup m = some .local) (ha : SXs X [a, b] f)
    (hw : swappedStores [.Tuple [.Name n px, .Name m py] kt pt] (.Tuple [a, b] k2 pt2) X.env = pure (some [n, m]))
    (hs : swapsWithSole [.Tuple [.Name n px, .Name m py] kt pt] (.Tuple [a, b] k2 pt2) pos.line X.env = pure false := by rfl) :
    SS X (.Assign [.Tuple [.Name n px, .Name m py] kt pt] (.Tuple [a, b] k2 pt2) pos) (sPars [i, j] f) := by
  refine ⟨PSw (ps_par hc hN hi hj hij hx hy ha.out hw hs) fun Dn σ H h => ?_⟩
  obtain ⟨g, O, env, x, sls, x', S, e, k⟩ := pars_read h
  refine ⟨g, O, env, x, sls, x', S, e, fun O' vs H' S' l w sub v => ?_⟩
  obtain ⟨hl, _, _, _, _, _, q⟩ := k O' vs H' S' l w sub v
  match vs, hl with
  | [v1, v2], _ => exact ⟨v1, v2, rfl, q H' (Same.refl _)⟩
theorem ss_par3 {i j l : Nat} {n m o : Str} {f : FXs} {px py pz pt : Pos} {kt k2 pt2} (hc : X.calm = true) (hN : X.N.Nodup) (hi : X.N[i]? = some n) (hj : X.N[j]? = some m) (hl : X.N[l]? = some o) (hij : i ≠ j) (hil : i ≠ l) (hjl : j ≠ l)
    (hx : X.env.scope.names.lookup n = some .local) (hy : X.env.scope.names.lookup m = some .local) (hz : X.env.scope.names.lookup o = some .local) (ha : SXs X [a, b, c] f)
    (hw : swappedStores [.Tuple [.Name n px, .Name m py, .Name o pz] kt pt] (.Tuple [a, b, c] k2 pt2) X.env = pure (some [n, m, o]))
    (hs : swapsWithSole [.Tuple [.Name n px, .Name m py, .Name o pz] kt pt] (.Tuple [a, b, c] k2 pt2) pos.line X.env = pure false := by rfl) :
    SS X (.Assign [.Tuple [.Name n px, .Name m py, .Name o pz] kt pt] (.Tuple [a, b, c] k2 pt2) pos) (sPars [i, j, l] f) := by
  refine ⟨PSw (ps_par3 hc hN hi hj hl hij hil hjl hx hy hz ha.out hw hs) fun Dn σ H h => ?_⟩
  obtain ⟨g, O, env, x, sls, x', S, e, k⟩ := pars_read h
  refine ⟨g, O, env, x, sls, x', S, e, fun O' vs H' S' l w sub v => ?_⟩
  obtain ⟨hl, _, _, _, _, _, q⟩ := k O' vs H' S' l w sub v
  match vs, hl with
  | [v1, v2, v3], _ => exact ⟨v1, v2, v3, rfl, q H' (Same.refl _)⟩
/-- by way of a tuple -/
inductive PNs (X : Cx) : List Nat → List Expr → Prop
  | nil : PNs X [] []
  | cons {i : Nat} {n : Str} {p : Pos} {is : List Nat} {es : List Expr} : X.N[i]? = some n → Loc X.env.scope n → (X.fn n = true ∨ X.env.scope.names.lookup n = some .local) → (assignEach (.Name n p :: es) X.env).map (·.2) = assign (.Name n p) X.env :: (assignEach es X.env).map (·.2) → PNs X is es → PNs X (i :: is) (.Name n p :: es)
def tNs : List Nat → TGs
  | [] => gNil
  | i :: is => gCons (gName i) (tNs is)
theorem pgs_ns {is : List Nat} {ts : List Expr} (hN : X.N.Nodup) (h : PNs X is ts) : PGs X ts (tNs is) := by
  induction h with
  | nil => exact pgs_nil
  | cons h1 h2 h3 h4 _ ih => exact pgs_cons (pg_name hN h1 h2 h3) ih h4
theorem ns_read : ∀ {is : List Nat} {vs : List V} {σ : L2.St} {H : Hp} {Q : L2.St → Hp → Prop}, vs.length = is.length → Q (setsV σ is vs) H → tNs is vs σ H Q
  | [], [], _, _, _, _, q => ⟨rfl, q⟩
  | [], _ :: _, _, _, _, h, _ => by simp at h
  | _ :: _, [], _, _, _, h, _ => by simp at h
  | i :: is, v :: vs, σ, H, Q, h, q => ⟨v, vs, rfl, ns_read (is := is) (by simpa using h) q⟩
theorem ss_parT {is : List Nat} {ts vs : List Expr} {f : FXs} {kt k2 : Nat} {pt pt2 : Pos} (hc : X.calm = true) (hN : X.N.Nodup) (hn : PNs X is ts) (ha : SXs X vs f) (hlen : is.length ≤ 100)
    (hn1 : (assignEach ts X.env).length = is.length) (hst : (assignEach ts X.env).findIdx? (·.1) = none)
    (hs : swapsWithSole [.Tuple ts kt pt] (.Tuple vs k2 pt2) pos.line X.env = pure false) (hw : swappedStores [.Tuple ts kt pt] (.Tuple vs k2 pt2) X.env = pure none)
    (h1 : (assignEach [.Tuple ts kt pt] X.env).map (·.2) = [assign (.Tuple ts kt pt) X.env]) : SS X (.Assign [.Tuple ts kt pt] (.Tuple vs k2 pt2) pos) (sPars is f) := by
  refine ⟨PSw (ps_asg (pe_tup ha.out) (pg_tup hc (pgs_ns hN hn) hn1 hst) hs hw h1) fun Dn σ H h => ?_⟩
  obtain ⟨g, O, env, x, sls, x', S, e, k⟩ := pars_read h
  refine ⟨g, O, env, x, sls, x', S, e, fun O' vs H' S' l w sub v => ?_⟩
  obtain ⟨hl, _, _, _, _, _, q⟩ := k O' vs H' S' l w sub v
  refine ⟨maxLen_ok (Nat.le_trans (show vs.length ≤ 100 by rw [hl]; exact hlen) (by decide)), fun p hp => ?_⟩
  exact ⟨p, vs, rfl, .of upd_same, hl, ns_read hl (q _ (same_upd hp))⟩
/-! ### subscripts and in, whatever the thing is -/
def gAt : D → D → Option D
  | .list ds, .int i => atI ds i
  | .tuple ds, .int i => atI ds i
  | .dict kvs, k => gDAt (.dict kvs) k
  | .dictT kvs, k => gDAt (.dictT kvs) k
  | _, _ => none
theorem fBin_of {gd : D → D → Option D} {fa fb : FE} {env : FEn} {x x1 : FRow} {d e r : D} {x2 : FRow} (h1 : fa env x = some (d, x1)) (h2 : fb env x1 = some (e, x2)) (h3 : gd d e = some r) : fBin gd fa fb env x = some (r, x2) := by
  unfold fBin
  rw [h1]
  dsimp only
  rw [h2]
  dsimp only
  rw [h3]
theorem se_at (hu : X.A.units + 1 < cLine) (ha : SB X a fa) (hb : SB X b fb) (hs : PlainIx b := by exact fun _ _ => rfl) (hs2 : NoSl b := by exact fun _ _ => rfl) : SE X (.Subscript a b pos) (fBin gAt fa fb) := by
  refine ⟨⟨fun pins s σ H Q I h => ?_⟩⟩
  obtain ⟨g, O, env, x, d, x', S, e, k⟩ := h
  obtain ⟨da, x1, db, r, e1, e2, e3, rfl⟩ := fBin_some e
  have ix : ∀ r, gIx da db = some r → r = r := fun _ _ => rfl
  unfold gAt at e3
  split at e3
  · exact (se_ix ha hb hs).out.run pins s σ H Q I ⟨g, O, env, x, _, x', S, fBin_of e1 e2 (show gIx (.list _) (.int _) = some _ from e3), k⟩
  · exact (se_ix ha hb hs).out.run pins s σ H Q I ⟨g, O, env, x, _, x', S, fBin_of e1 e2 (show gIx (.tuple _) (.int _) = some _ from e3), k⟩
  · exact (se_dget hu ha hb hs2).out.run pins s σ H Q I ⟨g, O, env, x, _, x', S, fBin_of e1 e2 e3, k⟩
  · exact (se_dget hu ha hb hs2).out.run pins s σ H Q I ⟨g, O, env, x, _, x', S, fBin_of e1 e2 e3, k⟩
  · cases e3
def gInA : D → D → Option D := fun d e => match e with
  | .list ds => gIn d (.list ds)
  | .dict kvs => gDIn d (.dict kvs)
  | .dictT kvs => gDIn d (.dictT kvs)
  | _ => none
def gNotInA : D → D → Option D := fun d e => match e with
  | .list ds => gNotIn d (.list ds)
  | .dict kvs => gDNotIn d (.dict kvs)
  | .dictT kvs => gDNotIn d (.dictT kvs)
  | _ => none
theorem se_inA (hu : X.A.units + 65 < cLine) (ha : SB X a fa) (hb : SB X b fb) (hm : behindInMarks .In b = false := by rfl) : SE X (.Compare a [.In] [b] pos) (fBin gInA fa fb) := by
  refine ⟨⟨fun pins s σ H Q I h => ?_⟩⟩
  obtain ⟨g, O, env, x, d, x', S, e, k⟩ := h
  obtain ⟨da, x1, db, r, e1, e2, e3, rfl⟩ := fBin_some e
  unfold gInA at e3
  split at e3
  · exact (se_cmp (od_in hu) ha hb hm).out.run pins s σ H Q I ⟨g, O, env, x, _, x', S, fBin_of e1 e2 e3, k⟩
  · exact (se_din (by omega) ha hb hm).out.run pins s σ H Q I ⟨g, O, env, x, _, x', S, fBin_of e1 e2 e3, k⟩
  · exact (se_din (by omega) ha hb hm).out.run pins s σ H Q I ⟨g, O, env, x, _, x', S, fBin_of e1 e2 e3, k⟩
  · cases e3
theorem se_notInA (hu : X.A.units + 65 < cLine) (ha : SB X a fa) (hb : SB X b fb) (hm : behindInMarks .NotIn b = false := by rfl) : SE X (.Compare a [.NotIn] [b] pos) (fBin gNotInA fa fb) := by
  refine ⟨⟨fun pins s σ H Q I h => ?_⟩⟩
  obtain ⟨g, O, env, x, d, x', S, e, k⟩ := h
  obtain ⟨da, x1, db, r, e1, e2, e3, rfl⟩ := fBin_some e
  unfold gNotInA at e3
  split at e3
  · exact (se_cmp (od_notIn hu) ha hb hm).out.run pins s σ H Q I ⟨g, O, env, x, _, x', S, fBin_of e1 e2 e3, k⟩
  · exact (se_dnot (by omega) ha hb hm).out.run pins s σ H Q I ⟨g, O, env, x, _, x', S, fBin_of e1 e2 e3, k⟩
  · exact (se_dnot (by omega) ha hb hm).out.run pins s σ H Q I ⟨g, O, env, x, _, x', S, fBin_of e1 e2 e3, k⟩
  · cases e3
theorem fTst_of {f : FE} {env : FEn} {x x' : FRow} {b : Bool} (h : f env x = some (.bool b, x')) : fTst f env x = some (b, x') := by
  unfold fTst
  rw [h]
theorem st_inA (hu : X.A.units + 65 < cLine) (ha : SB X a fa) (hb : SB X b fb) (hm : behindInMarks .In b = false := by rfl) : ST X (.Compare a [.In] [b] pos) (fTst (fBin gInA fa fb)) := by
  refine ⟨⟨fun pins s σ H Q I h => ?_⟩⟩
  obtain ⟨g, O, env, x, d, x', S, e, k⟩ := h
  obtain ⟨da, x1, db, r, e1, e2, e3, e4⟩ := fBin_some (fTst_some e)
  have e4 : r = .bool d := e4
  subst e4
  have e2 : fb env x1 = some (db, x') := e2
  unfold gInA at e3
  split at e3
  · exact (st_cmp (od_in hu) ha hb hm).out.run pins s σ H Q I ⟨g, O, env, x, _, x', S, fTst_of (fBin_of e1 e2 e3), k⟩
  · exact (st_din (by omega) ha hb hm).out.run pins s σ H Q I ⟨g, O, env, x, _, x', S, fTst_of (fBin_of e1 e2 e3), k⟩
  · exact (st_din (by omega) ha hb hm).out.run pins s σ H Q I ⟨g, O, env, x, _, x', S, fTst_of (fBin_of e1 e2 e3), k⟩
  · cases e3
theorem st_notInA (hu : X.A.units + 65 < cLine) (ha : SB X a fa) (hb : SB X b fb) (hm : behindInMarks .NotIn b = false := by rfl) : ST X (.Compare a [.NotIn] [b] pos) (fTst (fBin gNotInA fa fb)) := by
  refine ⟨⟨fun pins s σ H Q I h => ?_⟩⟩
  obtain ⟨g, O, env, x, d, x', S, e, k⟩ := h
  obtain ⟨da, x1, db, r, e1, e2, e3, e4⟩ := fBin_some (fTst_some e)
  have e4 : r = .bool d := e4
  subst e4
  have e2 : fb env x1 = some (db, x') := e2
  unfold gNotInA at e3
  split at e3
  · exact (st_cmp (od_notIn hu) ha hb hm).out.run pins s σ H Q I ⟨g, O, env, x, _, x', S, fTst_of (fBin_of e1 e2 e3), k⟩
  · exact (st_dnot (by omega) ha hb hm).out.run pins s σ H Q I ⟨g, O, env, x, _, x', S, fTst_of (fBin_of e1 e2 e3), k⟩
  · exact (st_dnot (by omega) ha hb hm).out.run pins s σ H Q I ⟨g, O, env, x, _, x', S, fTst_of (fBin_of e1 e2 e3), k⟩
  · cases e3
/-- < of tuples of ints -/
def gLtT : D → D → Option D
  | .tuple xs, .tuple ys => match intsD xs, intsD ys with
    | some ns, some ms => some (.bool (HT.lexLt ns ms))
    | _, _ => none
  | _, _ => none
theorem od_ltT (hu : X.A.units < cLine) : OpD X (compareOp .Lt) gLtT := by
  refine OpD.by (op_ltT hu) fun g O σ env x d e z H v w Q S rv rw q k => ?_
  unfold gLtT at q
  split at q
  · split at q
    · rename_i xs ys ns ms h1 h2
      cases q
      obtain ⟨p, us, rfl, hp, r1⟩ := rv.tup.tupAt
      obtain ⟨p2, us2, rfl, hp2, r2⟩ := rw.tup.tupAt
      rw [ints_ok h1] at r1
      rw [ints_ok h2] at r2
      rw [r1.ints] at hp
      rw [r2.ints] at hp2
      exact ⟨p, p2, ns, ms, rfl, rfl, .of hp, .of hp2, k _ _ (Same.refl _) (.bl _)⟩
    · cases q
  · cases q
def gLt : D → D → Option D := gOr (gI yes2 fun i j => .bool (decide (i < j))) gLtT
theorem od_ltA (hu : X.A.units < cLine) : OpD X (compareOp .Lt) gLt := od_lt.or (od_ltT hu)
def gAdd : D → D → Option D := gOr gAddI (gOr gCatT gCatL)
theorem od_addA : OpD X (binaryOp .Add) gAdd := od_add.or (od_catT.or od_catL)
def gMul : D → D → Option D := gOr gMulI gRepL
theorem od_mulA : OpD X (binaryOp .Mult) gMul := od_mul.or od_repL
def cOr (g1 g2 : List D → Option D) : List D → Option D := fun ds => match g1 ds with
  | some r => some r
  | none => g2 ds
theorem CallD.or {f : Value} {g1 g2 : List D → Option D} (h1 : CallD X f g1) (h2 : CallD X f g2) : CallD X f (cOr g1 g2) := by
  intro pins s σ H vs us Q I rv h
  obtain ⟨g, O, σ', env, x, ds, z, S, rr, e, k⟩ := h
  unfold cOr at e
  split at e
  · rename_i r' q'
    cases e
    exact h1 pins s σ H vs us Q I rv ⟨g, O, σ', env, x, ds, z, S, rr, q', k⟩
  · exact h2 pins s σ H vs us Q I rv ⟨g, O, σ', env, x, ds, z, S, rr, e, k⟩
def gSort : List D → Option D := cOr gSortI gSortT
theorem cd_sortA : CallD X (.builtin "sorted") gSort := cd_sorted.or cd_sortT
/-- x += e, ints -/
def sAug (i : Nat) (f : FE) : FS := fun env x => match env[i]? with
  | some (.va (.int m)) => match f env x with
    | some (.int n, x1) => some (.nx (env.set i (.va (.int (m + n)))), x1)
    | _ => none
  | _ => none
theorem ss_aug {i : Nat} {n : Str} {f : FE} {pos' : Pos} (hN : X.N.Nodup) (hi : X.N[i]? = some n) (hx : Loc X.env.scope n) (he : SE X e f)
    (hf : X.fn n = true ∨ X.env.scope.names.lookup n = some .local := by first | exact .inl rfl | exact .inr rfl | assumption) : SS X (.AugAssign (.Name n pos') .Add e pos) (sAug i f) := by
  refine ⟨PSw (ps_aug hN hi hx he.out ip_add hf) fun Dn σ H h => ?_⟩
  obtain ⟨g, O, env, x, r, x', S, e, k⟩ := h
  unfold sAug at e
  split at e
  · rename_i m e0
    split at e
    · rename_i n x1 e1
      cases e
      obtain ⟨s, e5, q5⟩ := S.at e0
      cases q5 with
      | va r0 =>
        cases r0
        refine ⟨_, e5, g, O, env, x, _, x', S, e1, fun v H1 S1 l1 r1 => ?_⟩
        cases r1
        exact ⟨m, n, rfl, rfl, k O _ _ (S1.setv i (.va (.int _)) fun d z => nomatch z)⟩
    · cases e
  · cases e
def sBk : FS := fun env x => some (.bk env, x)
def sCt : FS := fun env x => some (.ct env, x)
theorem ss_bk : SS X (.Break pos) sBk := ⟨PSw ps_break fun Dn σ H h => by
  obtain ⟨g, O, env, x, r, x', S, e, k⟩ := h
  cases e
  exact k O σ H S⟩
theorem ss_ct : SS X (.Continue pos) sCt := ⟨PSw ps_continue fun Dn σ H h => by
  obtain ⟨g, O, env, x, r, x', S, e, k⟩ := h
  cases e
  exact k O σ H S⟩
def sDrop (f : FE) : FS := fun env x => match f env x with
  | some (_, x1) => some (.nx env, x1)
  | none => none
theorem ss_drop (h : SE X e f) (hs : swapsWith e none pos.line X.env = pure false := by rfl) : SS X (.Expr e pos) (sDrop f) := by
  refine ⟨PSw (ps_expr h.out hs) fun Dn σ H h => ?_⟩
  obtain ⟨g, O, env, x, r, x', S, e, k⟩ := h
  unfold sDrop at e
  split at e
  · rename_i d x1 e1
    cases e
    exact ⟨g, O, env, x, d, x', S, e1, fun v H1 S1 l1 r1 => k O σ H1 S1⟩
  · cases e
/-- a def that is never asked -/
theorem ok_none {P : Program} {w : World} {K : PySem.W.Frag} {mg : Str → Option Value} {base : Heap} {k : Nat} {f : Addr} {fd : FuncData} {ps : List Str} : FnOk P w K mg base CX0 k f fd ps (spF K fun _ => none) :=
  ⟨fun vs H Q E h => (let ⟨_, _, _, _, _, e, _⟩ := h; nomatch e), fun A outer s H args us vs Q E hr he hb hv h => (let ⟨_, _, _, _, _, e, _⟩ := h; nomatch e)⟩
theorem room65 {k : Nat} {A : Around} (r : Room k A) : A.units + 65 < cLine := by
  have := r.un
  omega
end
end RT

namespace Lw
open PySem PySem.Spec PyProof.Rows L2 RT

def topS (i : Nat) : Stmt := PySem.Challenge.pw_roletalks_k00_whole_scripts.main.body.getD i (.Pass ⟨0, 0, 0, 0⟩)
theorem v_all : bootBuiltins "all" = some (.builtin "all") := by decide +kernel
theorem v_any : bootBuiltins "any" = some (.builtin "any") := by decide +kernel
theorem v_bool : bootBuiltins "bool" = some (.type "bool") := by decide +kernel
theorem v_enumerate : bootBuiltins "enumerate" = some (.type "enumerate") := by decide +kernel
theorem v_int : bootBuiltins "int" = some (.type "int") := by decide +kernel
theorem v_isinstance : bootBuiltins "isinstance" = some (.builtin "isinstance") := by decide +kernel
theorem v_len : bootBuiltins "len" = some (.builtin "len") := by decide +kernel
theorem v_list : bootBuiltins "list" = some (.type "list") := by decide +kernel
theorem v_range : bootBuiltins "range" = some (.type "range") := by decide +kernel
theorem v_sorted : bootBuiltins "sorted" = some (.builtin "sorted") := by decide +kernel
theorem v_str : bootBuiltins "str" = some (.type "str") := by decide +kernel
theorem v_tuple : bootBuiltins "tuple" = some (.type "tuple") := by decide +kernel
abbrev s_law_taken : Stmt := topS 31
abbrev N_law_taken : List Str := ["row", "many", "found", "cell"]
theorem sc_law_taken : FnScope N_law_taken ["row", "many"] (defScope s_law_taken) := ⟨rfl, rfl, rfl, by decide +kernel, rfl, by decide +kernel, by decide +kernel⟩
abbrev s_law_scene : Stmt := topS 33
abbrev N_law_scene : List Str := ["row", "actors", "at", "size", "loops", "speaker", "heads", "turn", "hearer", "spot", "head"]
theorem sc_law_scene : FnScope N_law_scene ["row", "actors", "at", "size", "loops"] (defScope s_law_scene) := ⟨rfl, rfl, rfl, by decide +kernel, rfl, by decide +kernel, by decide +kernel⟩
abbrev s_law_script : Stmt := topS 34
abbrev N_law_script : List Str := ["row", "actors", "most", "loops", "size", "at"]
theorem sc_law_script : FnScope N_law_script ["row", "actors", "most", "loops"] (defScope s_law_script) := ⟨rfl, rfl, rfl, by decide +kernel, rfl, by decide +kernel, by decide +kernel⟩
abbrev s_law_branches : Stmt := topS 35
abbrev N_law_branches : List Str := ["script", "scene"]
theorem sc_law_branches : FnScope N_law_branches ["script", "scene"] (defScope s_law_branches) := ⟨rfl, rfl, rfl, by decide +kernel, rfl, by decide +kernel, by decide +kernel⟩
abbrev s_law_coming : Stmt := topS 36
abbrev N_law_coming : List Str := ["script", "scene", "known", "last", "count", "fresh", "here", "branch"]
theorem sc_law_coming : FnScope N_law_coming ["script", "scene"] (defScope s_law_coming) := ⟨rfl, rfl, rfl, by decide +kernel, rfl, by decide +kernel, by decide +kernel⟩
abbrev s_law_alike : Stmt := topS 32
abbrev N_law_alike : List Str := ["found", "due", "k"]
theorem sc_law_alike : FnScope N_law_alike ["found", "due"] (defScope s_law_alike) := ⟨rfl, rfl, rfl, by decide +kernel, rfl, by decide +kernel, by decide +kernel⟩
abbrev s_has_items : Stmt := topS 6
abbrev N_has_items : List Str := ["value", "least", "most"]
theorem sc_has_items : FnScope N_has_items ["value", "least", "most"] (defScope s_has_items) := ⟨rfl, rfl, rfl, by decide +kernel, rfl, by decide +kernel, by decide +kernel⟩
abbrev s_is_number : Stmt := topS 5
abbrev N_is_number : List Str := ["value", "least", "most"]
theorem sc_is_number : FnScope N_is_number ["value", "least", "most"] (defScope s_is_number) := ⟨rfl, rfl, rfl, by decide +kernel, rfl, by decide +kernel, by decide +kernel⟩
abbrev s_has_script_form : Stmt := topS 15
abbrev N_has_script_form : List Str := ["value", "actors", "scenes"]
theorem sc_has_script_form : FnScope N_has_script_form ["value"] (defScope s_has_script_form) := ⟨rfl, rfl, rfl, by decide +kernel, rfl, by decide +kernel, by decide +kernel⟩
abbrev s_is_rising : Stmt := topS 7
abbrev N_is_rising : List Str := ["values", "at"]
theorem sc_is_rising : FnScope N_is_rising ["values"] (defScope s_is_rising) := ⟨rfl, rfl, rfl, by decide +kernel, rfl, by decide +kernel, by decide +kernel⟩
abbrev s_is_talk : Stmt := topS 18
abbrev N_is_talk : List Str := ["value", "actors", "speaker", "hearer", "word"]
theorem sc_is_talk : FnScope N_is_talk ["value", "actors"] (defScope s_is_talk) := ⟨rfl, rfl, rfl, by decide +kernel, rfl, by decide +kernel, by decide +kernel⟩
abbrev s_is_branch : Stmt := topS 17
abbrev N_is_branch : List Str := ["value", "speaker", "actors", "many", "hearer", "word", "there"]
theorem sc_is_branch : FnScope N_is_branch ["value", "speaker", "actors", "many"] (defScope s_is_branch) := ⟨rfl, rfl, rfl, by decide +kernel, rfl, by decide +kernel, by decide +kernel⟩
abbrev s_is_scene : Stmt := topS 16
abbrev N_is_scene : List Str := ["value", "actors", "many", "speaker", "branches", "branch"]
theorem sc_is_scene : FnScope N_is_scene ["value", "actors", "many"] (defScope s_is_scene) := ⟨rfl, rfl, rfl, by decide +kernel, rfl, by decide +kernel, by decide +kernel⟩
abbrev s_check_script : Stmt := topS 14
abbrev N_check_script : List Str := ["script", "actors", "scenes", "index", "scene"]
theorem sc_check_script : FnScope N_check_script ["script"] (defScope s_check_script) := ⟨rfl, rfl, rfl, by decide +kernel, rfl, by decide +kernel, by decide +kernel⟩
abbrev s_coming : Stmt := topS 8
abbrev N_coming : List Str := ["web", "start", "order", "seen", "at", "place", "_", "there"]
theorem sc_coming : FnScope N_coming ["web", "start"] (defScope s_coming) := ⟨rfl, rfl, rfl, by decide +kernel, rfl, by decide +kernel, by decide +kernel⟩
abbrev s_talks_from : Stmt := topS 19
abbrev N_talks_from : List Str := ["scene", "speaker", "branches", "hearer", "word", "there"]
theorem sc_talks_from : FnScope N_talks_from ["scene"] (defScope s_talks_from) := ⟨rfl, rfl, rfl, by decide +kernel, rfl, by decide +kernel, by decide +kernel⟩
abbrev s_talk_web : Stmt := topS 20
abbrev N_talk_web : List Str := ["script", "scene"]
theorem sc_talk_web : FnScope N_talk_web ["script"] (defScope s_talk_web) := ⟨rfl, rfl, rfl, by decide +kernel, rfl, by decide +kernel, by decide +kernel⟩
abbrev s_reached_scenes : Stmt := topS 21
abbrev N_reached_scenes : List Str := ["script"]
theorem sc_reached_scenes : FnScope N_reached_scenes ["script"] (defScope s_reached_scenes) := ⟨rfl, rfl, rfl, by decide +kernel, rfl, by decide +kernel, by decide +kernel⟩
abbrev s_talks_that_come : Stmt := topS 29
abbrev N_talks_that_come : List Str := ["script", "talks", "scene", "talk", "_"]
theorem sc_talks_that_come : FnScope N_talks_that_come ["script"] (defScope s_talks_that_come) := ⟨rfl, rfl, rfl, by decide +kernel, rfl, by decide +kernel, by decide +kernel⟩
abbrev s_speakers : Stmt := topS 27
abbrev N_speakers : List Str := ["script", "speaker", "_"]
theorem sc_speakers : FnScope N_speakers ["script"] (defScope s_speakers) := ⟨rfl, rfl, rfl, by decide +kernel, rfl, by decide +kernel, by decide +kernel⟩
abbrev s_silent : Stmt := topS 28
abbrev N_silent : List Str := ["script", "busy", "speaker", "hearer", "_", "actor"]
theorem sc_silent : FnScope N_silent ["script"] (defScope s_silent) := ⟨rfl, rfl, rfl, by decide +kernel, rfl, by decide +kernel, by decide +kernel⟩
abbrev s_new_names : Stmt := topS 9
abbrev N_new_names : List Str := ["order", "at", "place"]
theorem sc_new_names : FnScope N_new_names ["order"] (defScope s_new_names) := ⟨rfl, rfl, rfl, by decide +kernel, rfl, by decide +kernel, by decide +kernel⟩
abbrev s_renamed_scene : Stmt := topS 26
abbrev N_renamed_scene : List Str := ["scene", "names", "speaker", "branches", "hearer", "word", "there"]
theorem sc_renamed_scene : FnScope N_renamed_scene ["scene", "names"] (defScope s_renamed_scene) := ⟨rfl, rfl, rfl, by decide +kernel, rfl, by decide +kernel, by decide +kernel⟩
abbrev s_trimmed : Stmt := topS 25
abbrev N_trimmed : List Str := ["script", "actors", "scenes", "order", "names", "scene"]
theorem sc_trimmed : FnScope N_trimmed ["script"] (defScope s_trimmed) := ⟨rfl, rfl, rfl, by decide +kernel, rfl, by decide +kernel, by decide +kernel⟩
abbrev s_end_scenes : Stmt := topS 22
abbrev N_end_scenes : List Str := ["script", "scene"]
theorem sc_end_scenes : FnScope N_end_scenes ["script"] (defScope s_end_scenes) := ⟨rfl, rfl, rfl, by decide +kernel, rfl, by decide +kernel, by decide +kernel⟩
abbrev s_has_rounds : Stmt := topS 23
abbrev N_has_rounds : List Str := ["script", "web", "scene", "_", "there"]
theorem sc_has_rounds : FnScope N_has_rounds ["script"] (defScope s_has_rounds) := ⟨rfl, rfl, rfl, by decide +kernel, rfl, by decide +kernel, by decide +kernel⟩
abbrev s_always_ends : Stmt := topS 24
abbrev N_always_ends : List Str := ["script", "web", "scene", "there"]
theorem sc_always_ends : FnScope N_always_ends ["script"] (defScope s_always_ends) := ⟨rfl, rfl, rfl, by decide +kernel, rfl, by decide +kernel, by decide +kernel⟩
abbrev s_law : Stmt := topS 37
abbrev N_law : List Str := ["script", "row", "play", "some", "scene", "ends", "rounds", "calm", "active", "first", "later", "branch", "order", "count", "due", "told", "there", "actor"]
theorem sc_law : FnScope N_law ["script"] (defScope s_law) := ⟨rfl, rfl, rfl, by decide +kernel, rfl, by decide +kernel, by decide +kernel⟩
section
variable {P : Program} {w : World} {K : PySem.W.Frag} {mg : Str → Option Value} {base : Heap}
def b_law_taken : FS :=
    sSeq (sIf (fTst (fBin (gI yes2 fun i j => .bool (decide (j < i))) (fRow 0 3) (fC (.int 0)))) (sSeq (sSet 2 (xVal (fBin gModI (fCall gInt (aCons (fRow 0 3) aNil)) (fBor 1))))
    (sSeq (sRow 0 3 (fBin gDivI (fRow 0 3) (fBor 1)))
    (sRet (fVar 2)))) sNil)
    (sSeq (sRow 0 1 (fBin gAdd (fRow 0 1) (fC (.int 1))))
    (sSeq (sIf (fTst (fBin (gI yes2 fun i j => .bool (decide (j < i))) (fRow 0 1) (fRowLen 0))) (sSeq (sRow 0 2 (fBin gModI (fCall gInt (aCons (fBin gAdd (fBin gMul (fRow 0 2) (fC (.int 48271))) (fC (.int 11))) aNil)) (fC (.int 2147483647))))
    (sRet (fBin gModI (fCall gInt (aCons (fBin gDivI (fRow 0 2) (fC (.int 7))) aNil)) (fBor 1)))) sNil)
    (sSeq (sSet 3 (xVal (fRowAt 0 (fBin gSubI (fRow 0 1) (fC (.int 1))))))
    (sSeq (sRow 0 2 (fBin gModI (fCall gInt (aCons (fBin gAdd (fBin gAdd (fBin gMul (fRow 0 2) (fC (.int 48271))) (fBor 3)) (fC (.int 11))) aNil)) (fC (.int 2147483647))))
    (sSeq (sIf (fTst (fBin (gI yes2 fun i j => .bool (decide (j ≤ i))) (fBor 3) (fBin gPowI (fC (.int 10)) (fC (.int 18))))) (sRow 0 3 (fBin gDivI (fBor 3) (fBor 1))) sNil)
    (sRet (fBin gModI (fCall gInt (aCons (fBor 3) aNil)) (fBor 1))))))))
def m_law_taken : List D → FRow → Option (D × FRow) := mkR 3 1 b_law_taken
theorem ok_law_taken {f : Addr} {fd : FuncData} {k : Nat} (F : Fun K "_law_taken" "_law_taken" s_law_taken f fd) (z_int : mg "int" = none) (z_len : mg "len" = none) : FnOk P w K mg base CX0 (k + 1) f fd ["row", "many"] (spR K m_law_taken) := by
  refine RT.ok_fnR F sc_law_taken (by decide) (by decide) (fun cdv A outer s H E hr => ?_)
  unfold b_law_taken
  exact sss_cons (ss_if (st_cmp od_gt (sb_of (se_row (i := 0))) (sb_of se_int) (nomark _)) (sss_cons (ss_set (i := 2) (sc_law_taken.nd) rfl (by first | exact Or.inl rfl | exact Or.inr rfl) (sx_of (se_op od_mod (sb_of (se_callTy cd_int (by rfl) z_int v_int (sbs_cons (sb_of (se_row (i := 0))) sbs_nil))) (sb_var 1))))
      (sss_cons (ss_row (i := 0) (se_op od_div (sb_of (se_row (i := 0))) (sb_var 1)))
      (sss_one (ss_ret (se_var 2))))) sss_nil)
      (sss_cons (ss_row (i := 0) (se_op od_addA (sb_of (se_row (i := 0))) (sb_of se_int)))
      (sss_cons (ss_if (st_cmp od_gt (sb_of (se_row (i := 0))) (sb_of (se_rowlen (i := 0) (by rfl) z_len)) (nomark _)) (sss_cons (ss_row (i := 0) (se_op od_mod (sb_of (se_callTy cd_int (by rfl) z_int v_int (sbs_cons (sb_of (se_op od_addA (sb_of (se_op od_mulA (sb_of (se_row (i := 0))) (sb_of se_int))) (sb_of se_int))) sbs_nil))) (sb_of se_int)))
      (sss_one (ss_ret (se_op od_mod (sb_of (se_callTy cd_int (by rfl) z_int v_int (sbs_cons (sb_of (se_op od_div (sb_of (se_row (i := 0))) (sb_of se_int))) sbs_nil))) (sb_var 1))))) sss_nil)
      (sss_cons (ss_set (i := 3) (sc_law_taken.nd) rfl (by first | exact Or.inl rfl | exact Or.inr rfl) (sx_of (se_rowat (i := 0) (se_op od_sub (sb_of (se_row (i := 0))) (sb_of se_int)))))
      (sss_cons (ss_row (i := 0) (se_op od_mod (sb_of (se_callTy cd_int (by rfl) z_int v_int (sbs_cons (sb_of (se_op od_addA (sb_of (se_op od_addA (sb_of (se_op od_mulA (sb_of (se_row (i := 0))) (sb_of se_int))) (sb_var 3))) (sb_of se_int))) sbs_nil))) (sb_of se_int)))
      (sss_cons (ss_if (st_cmp od_ge (sb_var 3) (sb_of (se_op od_pow (sb_of se_int) (sb_of se_int))) (nomark _)) (sss_one (ss_row (i := 0) (se_op od_div (sb_var 3) (sb_var 1)))) sss_nil)
      (sss_one (ss_ret (se_op od_mod (sb_of (se_callTy cd_int (by rfl) z_int v_int (sbs_cons (sb_var 3) sbs_nil))) (sb_var 1)))))))))
def b_law_scene : FS :=
    sSeq (sPars [5, 6] (xsCons (xVal (fCallR 0 m_law_taken (aCons (fVar 1) aNil))) (xsCons (xNew (.dt [])) xsNil)))
    (sSeq (sFor (fRg1 (fBin gAdd (fC (.int 1)) (fCallR 0 m_law_taken (aCons (fC (.int 2)) aNil)))) (gtName 7) (sSeq (sSet 8 (xVal (fBin gModI (fCall gInt (aCons (fBin gAdd (fBin gAdd (fBor 5) (fC (.int 1))) (fCallR 0 m_law_taken (aCons (fBin gSubI (fBor 1) (fC (.int 1))) aNil))) aNil)) (fBor 1))))
    (sSeq (sSet 9 (xVal (fIf (fTru (fBor 4)) (fCallR 0 m_law_taken (aCons (fBin gAdd (fBor 3) (fC (.int 1))) aNil)) (fBin gAdd (fBin gAdd (fBor 2) (fC (.int 1))) (fCallR 0 m_law_taken (aCons (fBin gSubI (fBor 3) (fBor 2)) aNil))))))
    (sDPut 6 (fTup (aCons (fVar 8) (aCons (fCallR 0 m_law_taken (aCons (fC (.int 2)) aNil)) aNil))) (fVar 9)))))
    (sRet (fTup (aCons (fVar 5) (aCons (fCall gTupOf (aCons (fCall gSort (aCons (fOfX (xLc (fSeq (fCall gListOf (aCons (fBor 6) aNil))) (gtName 10) tYesF (fBin gAdd (fBor 10) (fTup (aCons (fBin gAt (fBor 6) (fBor 10)) aNil))) [10])) aNil)) aNil)) aNil)))))
def m_law_scene : List D → FRow → Option (D × FRow) := mkR 10 4 b_law_scene
theorem ok_law_scene {f : Addr} {fd : FuncData} {k : Nat} (F : Fun K "_law_scene" "_law_scene" s_law_scene f fd) (c_law_taken : Callee P w K mg base k "_law_taken" (spR K m_law_taken)) (z_tuple : mg "tuple" = none) (z_sorted : mg "sorted" = none) (z_list : mg "list" = none) (z_range : mg "range" = none) (z_int : mg "int" = none) : FnOk P w K mg base CX0 (k + 1) f fd ["row", "actors", "at", "size", "loops"] (spR K m_law_scene) := by
  refine RT.ok_fnR F sc_law_scene (by decide) (by decide) (fun cdv A outer s H E hr => ?_)
  unfold b_law_scene
  exact sss_cons (ss_parT (is := [5, 6]) rfl (sc_law_scene.nd) (.cons rfl (by first | exact Or.inl rfl | exact Or.inr rfl) (Or.inl rfl) rfl (.cons rfl (by first | exact Or.inl rfl | exact Or.inr rfl) (Or.inl rfl) rfl .nil)) (sxs_cons (sx_of (se_callR (i := 0) c_law_taken hr (by rfl) (sa_cons (se_var 1) sa_nil))) (sxs_cons sx_dT sxs_nil)) (by decide) rfl rfl rfl rfl rfl)
      (sss_cons (ss_for PassesOwn.never rfl (si_rg1 (by rfl) z_range (se_op od_addA (sb_of se_int) (sb_of (se_callR (i := 0) c_law_taken hr (by rfl) (sa_cons se_int sa_nil))))) (sg_name 7 (vs := [7]) (sc_law_scene.nd) rfl (by first | exact Or.inl rfl | exact Or.inr rfl) (by decide)) (sss_cons (ss_set (i := 8) (sc_law_scene.nd) rfl (by first | exact Or.inl rfl | exact Or.inr rfl) (sx_of (se_op od_mod (sb_of (se_callTy cd_int (by rfl) z_int v_int (sbs_cons (sb_of (se_op od_addA (sb_of (se_op od_addA (sb_var 5) (sb_of se_int))) (sb_of (se_callR (i := 0) c_law_taken hr (by rfl) (sa_cons (se_op od_sub (sb_var 1) (sb_of se_int)) sa_nil))))) sbs_nil))) (sb_var 1))))
      (sss_cons (ss_set (i := 9) (sc_law_scene.nd) rfl (by first | exact Or.inl rfl | exact Or.inr rfl) (sx_of (se_if (st_tru (sb_var 4)) (se_callR (i := 0) c_law_taken hr (by rfl) (sa_cons (se_op od_addA (sb_var 3) (sb_of se_int)) sa_nil)) (se_op od_addA (sb_of (se_op od_addA (sb_var 2) (sb_of se_int))) (sb_of (se_callR (i := 0) c_law_taken hr (by rfl) (sa_cons (se_op od_sub (sb_var 3) (sb_var 2)) sa_nil)))))))
      (sss_one (ss_dput (i := 6) (hu_of hr) (se_var 9) (se_tup (sa_cons (se_var 8) (sa_cons (se_callR (i := 0) c_law_taken hr (by rfl) (sa_cons se_int sa_nil)) sa_nil))))))))
      (sss_one (ss_ret (se_tup (sa_cons (se_var 5) (sa_cons (se_callTy cd_tuple (by rfl) z_tuple v_tuple (sbs_cons (sb_of (se_callB cd_sortA (by rfl) z_sorted v_sorted (sbs_cons (sb_of (se_ofX (sx_lc (own := [("head", 10)]) rfl (sc_law_scene.nd) (si_seq (se_callTy (cd_list rfl) (by rfl) z_list v_list (sbs_cons (sb_var 6) sbs_nil))) (blkOk_by (own := [("head", 10)]) (N := N_law_scene) (sc := defScope s_law_scene) (by decide +kernel)) (fun _ _ _ _ _ => sg_name 10 (vs := [10]) (sc_law_scene.nd) rfl (by first | exact Or.inl rfl | exact Or.inr rfl) (by decide)) (fun _ _ _ _ _ => sts_nil) (fun _ _ _ _ _ => se_op od_addA (sb_var 10) (sb_of (se_tup (sa_cons (se_at (hu_of hr) (sb_var 6) (sb_var 10)) sa_nil))))))) sbs_nil))) sbs_nil)) sa_nil))))))
def b_law_script : FS :=
    sSeq (sSet 4 (xVal (fBin gAdd (fC (.int 1)) (fCallR 0 m_law_taken (aCons (fVar 2) aNil)))))
    (sRet (fTup (aCons (fVar 1) (aCons (fBin gAdd (fCall gTupOf (aCons (fOfX (xLc (fRg1 (fVar 4)) (gtName 5) tYesF (fCallR 0 m_law_scene (aCons (fVar 1) (aCons (fVar 5) (aCons (fVar 4) (aCons (fVar 3) aNil))))) [5])) aNil)) (fTup (aCons (fC .none) aNil))) aNil))))
def m_law_script : List D → FRow → Option (D × FRow) := mkR 5 3 b_law_script
theorem ok_law_script {f : Addr} {fd : FuncData} {k : Nat} (F : Fun K "_law_script" "_law_script" s_law_script f fd) (c_law_scene : Callee P w K mg base k "_law_scene" (spR K m_law_scene)) (c_law_taken : Callee P w K mg base k "_law_taken" (spR K m_law_taken)) (z_tuple : mg "tuple" = none) (z_range : mg "range" = none) : FnOk P w K mg base CX0 (k + 1) f fd ["row", "actors", "most", "loops"] (spR K m_law_script) := by
  refine RT.ok_fnR F sc_law_script (by decide) (by decide) (fun cdv A outer s H E hr => ?_)
  unfold b_law_script
  exact sss_cons (ss_set (i := 4) (sc_law_script.nd) rfl (by first | exact Or.inl rfl | exact Or.inr rfl) (sx_of (se_op od_addA (sb_of se_int) (sb_of (se_callR (i := 0) c_law_taken hr (by rfl) (sa_cons (se_var 2) sa_nil))))))
      (sss_one (ss_ret (se_tup (sa_cons (se_var 1) (sa_cons (se_op od_addA (sb_of (se_callTy cd_tuple (by rfl) z_tuple v_tuple (sbs_cons (sb_of (se_ofX (sx_lc (own := [("at", 5)]) rfl (sc_law_script.nd) (si_rg1 (by rfl) z_range (se_var 4)) (blkOk_by (own := [("at", 5)]) (N := N_law_script) (sc := defScope s_law_script) (by decide +kernel)) (fun _ _ _ _ _ => sg_name 5 (vs := [5]) (sc_law_script.nd) rfl (by first | exact Or.inl rfl | exact Or.inr rfl) (by decide)) (fun _ _ _ _ _ => sts_nil) (fun _ _ _ _ _ => se_callR (i := 0) c_law_scene hr (by rfl) (sa_cons (se_var 1) (sa_cons (se_var 5) (sa_cons (se_var 4) (sa_cons (se_var 3) sa_nil)))))))) sbs_nil))) (sb_of (se_tup (sa_cons se_non sa_nil)))) sa_nil)))))
def b_law_branches : FS :=
    sRet (fIf (fTst (fBin gNotN (fBin gAt (fBin gAt (fBor 0) (fC (.int 1))) (fBor 1)) (fC .none))) (fBin gAt (fBin gAt (fBin gAt (fBor 0) (fC (.int 1))) (fBor 1)) (fC (.int 1))) (fTup aNil))
def m_law_branches : List D → Option D := mkF 2 2 b_law_branches
theorem ok_law_branches {f : Addr} {fd : FuncData} {k : Nat} (F : Fun K "_law_branches" "_law_branches" s_law_branches f fd) : FnOk P w K mg base CX0 (k + 1) f fd ["script", "scene"] (spF K m_law_branches) := by
  refine RT.ok_fn F sc_law_branches (fun cdv A outer s H E hr => ?_)
  unfold b_law_branches
  exact sss_one (ss_ret (se_if (st_cmp od_notN (sb_of (se_at (hu_of hr) (sb_of (se_at (hu_of hr) (sb_var 0) (sb_of se_int))) (sb_var 1))) (sb_of se_non) (nomark _)) (se_at (hu_of hr) (sb_of (se_at (hu_of hr) (sb_of (se_at (hu_of hr) (sb_var 0) (sb_of se_int))) (sb_var 1))) (sb_of se_int)) (se_tup sa_nil)))
def b_law_coming : FS :=
    sSeq (sPars [2, 3, 4] (xsCons (xDict1 (fVar 1) (fC (.bool true))) (xsCons (xVal (fLst (aCons (fVar 1) aNil))) (xsCons (xVal (fC (.int 0))) xsNil))))
    (sSeq (whL (tAndF (fTst (fBin gNe (fBor 3) (fLst aNil))) (fTst (fBin gLt (fBor 4) (fC (.int 10))))) (sSeq (sPars [4, 5] (xsCons (xVal (fBin gAdd (fBor 4) (fC (.int 1)))) (xsCons (xLst aNil) xsNil)))
    (sSeq (sFor (fSeq (fVar 3)) (gtName 6) (sFor (fSeq (fCall m_law_branches (aCons (fVar 0) (aCons (fVar 6) aNil)))) (gtName 7) (sIf (fTst (fBin gNotInA (fBin gAt (fBor 7) (fC (.int 2))) (fBor 2))) (sSeq (sDPut 2 (fBin gAt (fBor 7) (fC (.int 2))) (fC (.bool true)))
    (sApp 5 (fBin gAt (fBor 7) (fC (.int 2))))) sNil)))
    (sFrz 5 (sSet 3 (xVal (fVar 5)))))) 1000)
    (sRet (fCall gSort (aCons (fCall gListOf (aCons (fBor 2) aNil)) aNil))))
def m_law_coming : List D → Option D := mkF 8 2 b_law_coming
theorem ok_law_coming {f : Addr} {fd : FuncData} {k : Nat} (F : Fun K "_law_coming" "_law_coming" s_law_coming f fd) (c_law_branches : Callee P w K mg base k "_law_branches" (spF K m_law_branches)) (z_sorted : mg "sorted" = none) (z_list : mg "list" = none) : FnOk P w K mg base CX0 (k + 1) f fd ["script", "scene"] (spF K m_law_coming) := by
  refine RT.ok_fn F sc_law_coming (fun cdv A outer s H E hr => ?_)
  unfold b_law_coming
  exact sss_cons (ss_par3 (i := 2) (j := 3) (l := 4) rfl (sc_law_coming.nd) rfl rfl rfl (by decide) (by decide) (by decide) rfl rfl rfl (sxs_cons (sx_d1 (se_var 1) se_bl) (sxs_cons (sx_of (se_lst (sa_cons (se_var 1) sa_nil))) (sxs_cons (sx_of se_int) sxs_nil))) rfl)
      (sss_cons (ss_while 1000 PassesOwn.never (st_w (sw_and (st_cmp (od_ne hr.units) (sb_var 3) (sb_of (se_lst sa_nil)) (nomark _)) (sw_and1 (st_cmp (od_ltA hr.units0) (sb_var 4) (sb_of se_int) (nomark _))))) (sss_cons (ss_par2 (i := 4) (j := 5) rfl (sc_law_coming.nd) rfl rfl (by decide) rfl rfl (sxs_cons (sx_of (se_op od_addA (sb_var 4) (sb_of se_int))) (sxs_cons (sx_lst sa_nil) sxs_nil)) rfl)
      (sss_cons (ss_for PassesOwn.never rfl (si_seq (se_var 3)) (sg_name 6 (vs := [6]) (sc_law_coming.nd) rfl (by first | exact Or.inl rfl | exact Or.inr rfl) (by decide)) (sss_one (ss_for PassesOwn.never rfl (si_seq (se_call c_law_branches hr (by rfl) (sa_cons (se_var 0) (sa_cons (se_var 6) sa_nil)))) (sg_name 7 (vs := [7]) (sc_law_coming.nd) rfl (by first | exact Or.inl rfl | exact Or.inr rfl) (by decide)) (sss_one (ss_if (st_notInA (room65 hr) (sb_of (se_at (hu_of hr) (sb_var 7) (sb_of se_int))) (sb_var 2)) (sss_cons (ss_dput (i := 2) (hu_of hr) se_bl (se_at (hu_of hr) (sb_var 7) (sb_of se_int)))
      (sss_one (ss_app (i := 5) (se_at (hu_of hr) (sb_var 7) (sb_of se_int))))) sss_nil)))))
      (sss_one (ss_frz 5 (ss_set (i := 3) (sc_law_coming.nd) rfl (by first | exact Or.inl rfl | exact Or.inr rfl) (sx_of (se_var 5))))))))
      (sss_one (ss_ret (se_callB cd_sortA (by rfl) z_sorted v_sorted (sbs_cons (sb_of (se_callTy (cd_list rfl) (by rfl) z_list v_list (sbs_cons (sb_var 2) sbs_nil))) sbs_nil)))))
def b_law_alike (rec : List D → Option D) : FS :=
    sSeq (sIf (fTru (fIsi2 .tuple .list (fBor 1))) (sSeq (sIf (tOrF (tNotF (fTru (fIsi2 .tuple .list (fBor 0)))) (fTst (fBin gNe (fIsi .list (fBor 0)) (fIsi .list (fBor 1))))) (sRet (fC (.bool false))) sNil)
    (sSeq (sIf (fTst (fBin gNe (fCall gLen (aCons (fBor 0) aNil)) (fCall gLen (aCons (fBor 1) aNil)))) (sRet (fC (.bool false))) sNil)
    (sRet (fBin gEq (fOfX (xLc (fRg1 (fCall gLen (aCons (fBor 1) aNil))) (gtName 2) (tNotF (fTru (fCall rec (aCons (fBin gAt (fBor 0) (fBor 2)) (aCons (fBin gAt (fBor 1) (fBor 2)) aNil))))) (fVar 2) [2])) (fLst aNil))))) sNil)
    (sSeq (sIf (tOrF (fTst (fBin gIsN (fBor 1) (fC .none))) (fTru (fIsi .str (fBor 1)))) (sRet (fAnd (fBin gEq (fBor 0) (fBor 1)) (fBin gEq (fIsi .str (fBor 0)) (fIsi .str (fBor 1))))) sNil)
    (sRet (fAnd (fIsi .int (fBor 0)) (fAnd (fBin gEq (fIsi .bool (fBor 0)) (fIsi .bool (fBor 1))) (fBin gEq (fBor 0) (fBor 1))))))
def m_law_alike : Nat → List D → Option D
  | 0 => fun _ => none
  | k + 1 => mkF 3 2 (b_law_alike (m_law_alike k))
theorem okr_law_alike {f : Addr} {fd : FuncData} {k : Nat} {rec : List D → Option D} (F : Fun K "_law_alike" "_law_alike" s_law_alike f fd) (c_law_alike : Callee P w K mg base k "_law_alike" (spF K rec)) (z_isinstance : mg "isinstance" = none) (z_bool : mg "bool" = none) (z_int : mg "int" = none) (z_str : mg "str" = none) (z_tuple : mg "tuple" = none) (z_list : mg "list" = none) (z_range : mg "range" = none) (z_len : mg "len" = none) : FnOk P w K mg base CX0 (k + 1) f fd ["found", "due"] (spF K (mkF 3 2 (b_law_alike rec))) := by
  refine RT.ok_fn F sc_law_alike (fun cdv A outer s H E hr => ?_)
  unfold b_law_alike
  exact sss_cons (ss_if (st_tru (sb_of (se_isi2 (T := .tuple) (U := .list) (by rfl) z_isinstance (sb_var 1) (by rfl) z_tuple v_tuple (by rfl) z_list v_list))) (sss_cons (ss_if (st_w (sw_or (st_not (st_tru (sb_of (se_isi2 (T := .tuple) (U := .list) (by rfl) z_isinstance (sb_var 0) (by rfl) z_tuple v_tuple (by rfl) z_list v_list)))) (sw_or1 (st_cmp (od_ne hr.units) (sb_of (se_isi (T := .list) (by rfl) z_isinstance (sb_var 0) (by rfl) z_list v_list)) (sb_of (se_isi (T := .list) (by rfl) z_isinstance (sb_var 1) (by rfl) z_list v_list)) (nomark _))))) (sss_one (ss_ret se_bl)) sss_nil)
      (sss_cons (ss_if (st_cmp (od_ne hr.units) (sb_of (se_callB cd_len (by rfl) z_len v_len (sbs_cons (sb_var 0) sbs_nil))) (sb_of (se_callB cd_len (by rfl) z_len v_len (sbs_cons (sb_var 1) sbs_nil))) (nomark _)) (sss_one (ss_ret se_bl)) sss_nil)
      (sss_one (ss_ret (se_cmp (od_eq hr.units) (sb_of (se_ofX (sx_lc (own := [("k", 2)]) rfl (sc_law_alike.nd) (si_rg1 (by rfl) z_range (se_callB cd_len (by rfl) z_len v_len (sbs_cons (sb_var 1) sbs_nil))) (blkOk_by (own := [("k", 2)]) (N := N_law_alike) (sc := defScope s_law_alike) (by decide +kernel)) (fun _ _ _ _ _ => sg_name 2 (vs := [2]) (sc_law_alike.nd) rfl (by first | exact Or.inl rfl | exact Or.inr rfl) (by decide)) (fun _ _ _ _ _ => sts_one (st_not (st_tru (sb_of (se_call c_law_alike hr (by rfl) (sa_cons (se_at (hu_of hr) (sb_var 0) (sb_var 2)) (sa_cons (se_at (hu_of hr) (sb_var 1) (sb_var 2)) sa_nil))))))) (fun _ _ _ _ _ => se_var 2)))) (sb_of (se_lst sa_nil)) (nomark _)))))) sss_nil)
      (sss_cons (ss_if (st_w (sw_or (st_cmp od_isN (sb_var 1) (sb_of se_non) (nomark _)) (sw_or1 (st_tru (sb_of (se_isi (T := .str) (by rfl) z_isinstance (sb_var 1) (by rfl) z_str v_str)))))) (sss_one (ss_ret (se_and (se_cmp (od_eq hr.units) (sb_var 0) (sb_var 1) (nomark _)) (se_one (se_cmp (od_eq hr.units) (sb_of (se_isi (T := .str) (by rfl) z_isinstance (sb_var 0) (by rfl) z_str v_str)) (sb_of (se_isi (T := .str) (by rfl) z_isinstance (sb_var 1) (by rfl) z_str v_str)) (nomark _)))))) sss_nil)
      (sss_one (ss_ret (se_and (se_isi (T := .int) (by rfl) z_isinstance (sb_var 0) (by rfl) z_int v_int) (se_and (se_cmp (od_eq hr.units) (sb_of (se_isi (T := .bool) (by rfl) z_isinstance (sb_var 0) (by rfl) z_bool v_bool)) (sb_of (se_isi (T := .bool) (by rfl) z_isinstance (sb_var 1) (by rfl) z_bool v_bool)) (nomark _)) (se_one (se_cmp (od_eq hr.units) (sb_var 0) (sb_var 1) (nomark _))))))))
theorem ok_law_alike {f : Addr} {fd : FuncData} {k : Nat} (F : Fun K "_law_alike" "_law_alike" s_law_alike f fd) (hm : mg "_law_alike" = some (.ref f)) (hb : Binds K fd ["found", "due"] []) (z_isinstance : mg "isinstance" = none) (z_bool : mg "bool" = none) (z_int : mg "int" = none) (z_str : mg "str" = none) (z_tuple : mg "tuple" = none) (z_list : mg "list" = none) (z_range : mg "range" = none) (z_len : mg "len" = none) : ∀ n : Nat, FnOk P w K mg base CX0 (k + n) f fd ["found", "due"] (spF K (m_law_alike n))
  | 0 => ok_none
  | n + 1 => okr_law_alike (k := k + n) F ⟨f, fd, _, ok_law_alike F hm hb z_isinstance z_bool z_int z_str z_tuple z_list z_range z_len n, hm, F.kp, hb⟩ z_isinstance z_bool z_int z_str z_tuple z_list z_range z_len
def b_has_items : FS :=
    sRet (fAnd (fIsi .tuple (fBor 0)) (fChain (gI yes2 fun i j => .bool (decide (i ≤ j))) (gI yes2 fun i j => .bool (decide (i ≤ j))) (fBor 1) (fCall gLen (aCons (fBor 0) aNil)) (fBor 2)))
def m_has_items : List D → Option D := mkF 3 3 b_has_items
theorem ok_has_items {f : Addr} {fd : FuncData} {k : Nat} (F : Fun K "has_items" "has_items" s_has_items f fd) (z_len : mg "len" = none) (z_isinstance : mg "isinstance" = none) (z_tuple : mg "tuple" = none) : FnOk P w K mg base CX0 (k + 1) f fd ["value", "least", "most"] (spF K m_has_items) := by
  refine RT.ok_fn F sc_has_items (fun cdv A outer s H E hr => ?_)
  unfold b_has_items
  exact sss_one (ss_ret (se_and (se_isi (T := .tuple) (by rfl) z_isinstance (sb_var 0) (by rfl) z_tuple v_tuple) (se_one (se_chain od_le od_le (sb_var 1) (sb_of (se_callB cd_len (by rfl) z_len v_len (sbs_cons (sb_var 0) sbs_nil))) (sb_var 2)))))
def b_is_number : FS :=
    sRet (fAnd (fIsi .int (fBor 0)) (fAnd (fNot (fIsi .bool (fBor 0))) (fChain (gI yes2 fun i j => .bool (decide (i ≤ j))) (gI yes2 fun i j => .bool (decide (i ≤ j))) (fBor 1) (fBor 0) (fBor 2))))
def m_is_number : List D → Option D := mkF 3 3 b_is_number
theorem ok_is_number {f : Addr} {fd : FuncData} {k : Nat} (F : Fun K "is_number" "is_number" s_is_number f fd) (z_isinstance : mg "isinstance" = none) (z_bool : mg "bool" = none) (z_int : mg "int" = none) : FnOk P w K mg base CX0 (k + 1) f fd ["value", "least", "most"] (spF K m_is_number) := by
  refine RT.ok_fn F sc_is_number (fun cdv A outer s H E hr => ?_)
  unfold b_is_number
  exact sss_one (ss_ret (se_and (se_isi (T := .int) (by rfl) z_isinstance (sb_var 0) (by rfl) z_int v_int) (se_and (se_not (se_isi (T := .bool) (by rfl) z_isinstance (sb_var 0) (by rfl) z_bool v_bool)) (se_one (se_chain od_le od_le (sb_var 1) (sb_var 0) (sb_var 2))))))
def b_has_script_form : FS :=
    sSeq (sIf (tNotF (fTru (fCall m_has_items (aCons (fVar 0) (aCons (fC (.int 2)) (aCons (fC (.int 2)) aNil)))))) (sRet (fC (.bool false))) sNil)
    (sSeq (sUnp (fVar 0) (gtTup 2 (gtCons (gtName 1) (gtCons (gtName 2) gtNil))))
    (sRet (fAnd (fCall m_is_number (aCons (fVar 1) (aCons (fC (.int 2)) (aCons (fC (.int 4)) aNil)))) (fCall m_has_items (aCons (fVar 2) (aCons (fC (.int 1)) (aCons (fC (.int 8)) aNil)))))))
def m_has_script_form : List D → Option D := mkF 3 1 b_has_script_form
theorem ok_has_script_form {f : Addr} {fd : FuncData} {k : Nat} (F : Fun K "has_script_form" "has_script_form" s_has_script_form f fd) (c_has_items : Callee P w K mg base k "has_items" (spF K m_has_items)) (c_is_number : Callee P w K mg base k "is_number" (spF K m_is_number)) {t_MOST_SCENES : Tok} (k_MOST_SCENES : mg "MOST_SCENES" = some (.int 8 t_MOST_SCENES)) {t_MOST_ACTORS : Tok} (k_MOST_ACTORS : mg "MOST_ACTORS" = some (.int 4 t_MOST_ACTORS)) {t_LEAST_ACTORS : Tok} (k_LEAST_ACTORS : mg "LEAST_ACTORS" = some (.int 2 t_LEAST_ACTORS)) : FnOk P w K mg base CX0 (k + 1) f fd ["value"] (spF K m_has_script_form) := by
  refine RT.ok_fn F sc_has_script_form (fun cdv A outer s H E hr => ?_)
  unfold b_has_script_form
  exact sss_cons (ss_if (st_not (st_tru (sb_of (se_call c_has_items hr (by rfl) (sa_cons (se_var 0) (sa_cons se_int (sa_cons se_int sa_nil))))))) (sss_one (ss_ret se_bl)) sss_nil)
      (sss_cons (ss_unp (se_var 0) (sg_tup (n := 2) rfl (sgs_cons (sg_name 1 (vs := [1, 2]) (sc_has_script_form.nd) rfl (by first | exact Or.inl rfl | exact Or.inr rfl) (by decide)) (sgs_cons (sg_name 2 (vs := [1, 2]) (sc_has_script_form.nd) rfl (by first | exact Or.inl rfl | exact Or.inr rfl) (by decide)) sgs_nil))))
      (sss_one (ss_ret (se_and (se_call c_is_number hr (by rfl) (sa_cons (se_var 1) (sa_cons (se_glob (v := .int 2) (by rfl) k_LEAST_ACTORS ⟨_, rfl⟩ (fun _ _ _ => .int _)) (sa_cons (se_glob (v := .int 4) (by rfl) k_MOST_ACTORS ⟨_, rfl⟩ (fun _ _ _ => .int _)) sa_nil)))) (se_one (se_call c_has_items hr (by rfl) (sa_cons (se_var 2) (sa_cons se_int (sa_cons (se_glob (v := .int 8) (by rfl) k_MOST_SCENES ⟨_, rfl⟩ (fun _ _ _ => .int _)) sa_nil)))))))))
def b_is_rising : FS :=
    sRet (fCall gAll (aCons (fOfX (xLc (fRg1 (fBin gSubI (fCall gLen (aCons (fBor 0) aNil)) (fC (.int 1)))) (gtName 1) tYesF (fBin gLt (fBin gAt (fBor 0) (fBor 1)) (fBin gAt (fBor 0) (fBin gAdd (fBor 1) (fC (.int 1))))) [1])) aNil))
def m_is_rising : List D → Option D := mkF 2 1 b_is_rising
theorem ok_is_rising {f : Addr} {fd : FuncData} {k : Nat} (F : Fun K "is_rising" "is_rising" s_is_rising f fd) (z_all : mg "all" = none) (z_range : mg "range" = none) (z_len : mg "len" = none) : FnOk P w K mg base CX0 (k + 1) f fd ["values"] (spF K m_is_rising) := by
  refine RT.ok_fn F sc_is_rising (fun cdv A outer s H E hr => ?_)
  unfold b_is_rising
  exact sss_one (ss_ret (se_callB (cd_all rfl) (by rfl) z_all v_all (sbs_cons (sb_of (se_ofX (sx_lc (own := [("at", 1)]) rfl (sc_is_rising.nd) (si_rg1 (by rfl) z_range (se_op od_sub (sb_of (se_callB cd_len (by rfl) z_len v_len (sbs_cons (sb_var 0) sbs_nil))) (sb_of se_int))) (blkOk_by (own := [("at", 1)]) (N := N_is_rising) (sc := defScope s_is_rising) (by decide +kernel)) (fun _ _ _ _ _ => sg_name 1 (vs := [1]) (sc_is_rising.nd) rfl (by first | exact Or.inl rfl | exact Or.inr rfl) (by decide)) (fun _ _ _ _ _ => sts_nil) (fun _ _ _ _ _ => se_cmp (od_ltA hr.units0) (sb_of (se_at (hu_of hr) (sb_var 0) (sb_var 1))) (sb_of (se_at (hu_of hr) (sb_var 0) (sb_of (se_op od_addA (sb_var 1) (sb_of se_int))))) (nomark _))))) sbs_nil)))
def b_is_talk : FS :=
    sSeq (sIf (tNotF (fTru (fCall m_has_items (aCons (fVar 0) (aCons (fC (.int 3)) (aCons (fC (.int 3)) aNil)))))) (sRet (fC (.bool false))) sNil)
    (sSeq (sUnp (fVar 0) (gtTup 3 (gtCons (gtName 2) (gtCons (gtName 3) (gtCons (gtName 4) gtNil)))))
    (sSeq (sIf (tOrF (tNotF (fTru (fCall m_is_number (aCons (fVar 2) (aCons (fC (.int 0)) (aCons (fBin gSubI (fBor 1) (fC (.int 1))) aNil)))))) (tNotF (fTru (fCall m_is_number (aCons (fVar 3) (aCons (fC (.int 0)) (aCons (fBin gSubI (fBor 1) (fC (.int 1))) aNil))))))) (sRet (fC (.bool false))) sNil)
    (sRet (fAnd (fBin gNe (fBor 2) (fBor 3)) (fCall m_is_number (aCons (fVar 4) (aCons (fC (.int 0)) (aCons (fC (.int 5)) aNil))))))))
def m_is_talk : List D → Option D := mkF 5 2 b_is_talk
theorem ok_is_talk {f : Addr} {fd : FuncData} {k : Nat} (F : Fun K "is_talk" "is_talk" s_is_talk f fd) (c_is_number : Callee P w K mg base k "is_number" (spF K m_is_number)) (c_has_items : Callee P w K mg base k "has_items" (spF K m_has_items)) {t_LAST_WORD : Tok} (k_LAST_WORD : mg "LAST_WORD" = some (.int 5 t_LAST_WORD)) : FnOk P w K mg base CX0 (k + 1) f fd ["value", "actors"] (spF K m_is_talk) := by
  refine RT.ok_fn F sc_is_talk (fun cdv A outer s H E hr => ?_)
  unfold b_is_talk
  exact sss_cons (ss_if (st_not (st_tru (sb_of (se_call c_has_items hr (by rfl) (sa_cons (se_var 0) (sa_cons se_int (sa_cons se_int sa_nil))))))) (sss_one (ss_ret se_bl)) sss_nil)
      (sss_cons (ss_unp (se_var 0) (sg_tup (n := 3) rfl (sgs_cons (sg_name 2 (vs := [2, 3, 4]) (sc_is_talk.nd) rfl (by first | exact Or.inl rfl | exact Or.inr rfl) (by decide)) (sgs_cons (sg_name 3 (vs := [2, 3, 4]) (sc_is_talk.nd) rfl (by first | exact Or.inl rfl | exact Or.inr rfl) (by decide)) (sgs_cons (sg_name 4 (vs := [2, 3, 4]) (sc_is_talk.nd) rfl (by first | exact Or.inl rfl | exact Or.inr rfl) (by decide)) sgs_nil)))))
      (sss_cons (ss_if (st_w (sw_or (st_not (st_tru (sb_of (se_call c_is_number hr (by rfl) (sa_cons (se_var 2) (sa_cons se_int (sa_cons (se_op od_sub (sb_var 1) (sb_of se_int)) sa_nil))))))) (sw_or1 (st_not (st_tru (sb_of (se_call c_is_number hr (by rfl) (sa_cons (se_var 3) (sa_cons se_int (sa_cons (se_op od_sub (sb_var 1) (sb_of se_int)) sa_nil)))))))))) (sss_one (ss_ret se_bl)) sss_nil)
      (sss_one (ss_ret (se_and (se_cmp (od_ne hr.units) (sb_var 2) (sb_var 3) (nomark _)) (se_one (se_call c_is_number hr (by rfl) (sa_cons (se_var 4) (sa_cons se_int (sa_cons (se_glob (v := .int 5) (by rfl) k_LAST_WORD ⟨_, rfl⟩ (fun _ _ _ => .int _)) sa_nil))))))))))
def b_is_branch : FS :=
    sSeq (sIf (tNotF (fTru (fCall m_has_items (aCons (fVar 0) (aCons (fC (.int 3)) (aCons (fC (.int 3)) aNil)))))) (sRet (fC (.bool false))) sNil)
    (sSeq (sUnp (fVar 0) (gtTup 3 (gtCons (gtName 4) (gtCons (gtName 5) (gtCons (gtName 6) gtNil)))))
    (sRet (fAnd (fCall m_is_talk (aCons (fTup (aCons (fVar 1) (aCons (fVar 4) (aCons (fVar 5) aNil)))) (aCons (fVar 2) aNil))) (fCall m_is_number (aCons (fVar 6) (aCons (fC (.int 0)) (aCons (fBin gSubI (fBor 3) (fC (.int 1))) aNil)))))))
def m_is_branch : List D → Option D := mkF 7 4 b_is_branch
theorem ok_is_branch {f : Addr} {fd : FuncData} {k : Nat} (F : Fun K "is_branch" "is_branch" s_is_branch f fd) (c_is_number : Callee P w K mg base k "is_number" (spF K m_is_number)) (c_is_talk : Callee P w K mg base k "is_talk" (spF K m_is_talk)) (c_has_items : Callee P w K mg base k "has_items" (spF K m_has_items)) : FnOk P w K mg base CX0 (k + 1) f fd ["value", "speaker", "actors", "many"] (spF K m_is_branch) := by
  refine RT.ok_fn F sc_is_branch (fun cdv A outer s H E hr => ?_)
  unfold b_is_branch
  exact sss_cons (ss_if (st_not (st_tru (sb_of (se_call c_has_items hr (by rfl) (sa_cons (se_var 0) (sa_cons se_int (sa_cons se_int sa_nil))))))) (sss_one (ss_ret se_bl)) sss_nil)
      (sss_cons (ss_unp (se_var 0) (sg_tup (n := 3) rfl (sgs_cons (sg_name 4 (vs := [4, 5, 6]) (sc_is_branch.nd) rfl (by first | exact Or.inl rfl | exact Or.inr rfl) (by decide)) (sgs_cons (sg_name 5 (vs := [4, 5, 6]) (sc_is_branch.nd) rfl (by first | exact Or.inl rfl | exact Or.inr rfl) (by decide)) (sgs_cons (sg_name 6 (vs := [4, 5, 6]) (sc_is_branch.nd) rfl (by first | exact Or.inl rfl | exact Or.inr rfl) (by decide)) sgs_nil)))))
      (sss_one (ss_ret (se_and (se_call c_is_talk hr (by rfl) (sa_cons (se_tup (sa_cons (se_var 1) (sa_cons (se_var 4) (sa_cons (se_var 5) sa_nil)))) (sa_cons (se_var 2) sa_nil))) (se_one (se_call c_is_number hr (by rfl) (sa_cons (se_var 6) (sa_cons se_int (sa_cons (se_op od_sub (sb_var 3) (sb_of se_int)) sa_nil)))))))))
def b_is_scene : FS :=
    sSeq (sIf (fTst (fBin gIsN (fBor 0) (fC .none))) (sRet (fC (.bool true))) sNil)
    (sSeq (sIf (tNotF (fTru (fCall m_has_items (aCons (fVar 0) (aCons (fC (.int 2)) (aCons (fC (.int 2)) aNil)))))) (sRet (fC (.bool false))) sNil)
    (sSeq (sUnp (fVar 0) (gtTup 2 (gtCons (gtName 3) (gtCons (gtName 4) gtNil))))
    (sSeq (sIf (tOrF (tNotF (fTru (fIsi .tuple (fBor 4)))) (fTst (fBin gEq (fCall gLen (aCons (fBor 4) aNil)) (fC (.int 0))))) (sRet (fC (.bool false))) sNil)
    (sSeq (sIf (tNotF (fTru (fCall gAll (aCons (fOfX (xLc (fSeq (fVar 4)) (gtName 5) tYesF (fCall m_is_branch (aCons (fVar 5) (aCons (fVar 3) (aCons (fVar 1) (aCons (fVar 2) aNil))))) [5])) aNil)))) (sRet (fC (.bool false))) sNil)
    (sRet (fCall m_is_rising (aCons (fOfX (xLc (fSeq (fVar 4)) (gtName 5) tYesF (fSl (fBor 5) oNone (oSome (fC (.int 2)))) [5])) aNil)))))))
def m_is_scene : List D → Option D := mkF 6 3 b_is_scene
theorem ok_is_scene {f : Addr} {fd : FuncData} {k : Nat} (F : Fun K "is_scene" "is_scene" s_is_scene f fd) (c_is_rising : Callee P w K mg base k "is_rising" (spF K m_is_rising)) (c_is_branch : Callee P w K mg base k "is_branch" (spF K m_is_branch)) (c_has_items : Callee P w K mg base k "has_items" (spF K m_has_items)) (z_all : mg "all" = none) (z_len : mg "len" = none) (z_isinstance : mg "isinstance" = none) (z_tuple : mg "tuple" = none) : FnOk P w K mg base CX0 (k + 1) f fd ["value", "actors", "many"] (spF K m_is_scene) := by
  refine RT.ok_fn F sc_is_scene (fun cdv A outer s H E hr => ?_)
  unfold b_is_scene
  exact sss_cons (ss_if (st_cmp od_isN (sb_var 0) (sb_of se_non) (nomark _)) (sss_one (ss_ret se_bl)) sss_nil)
      (sss_cons (ss_if (st_not (st_tru (sb_of (se_call c_has_items hr (by rfl) (sa_cons (se_var 0) (sa_cons se_int (sa_cons se_int sa_nil))))))) (sss_one (ss_ret se_bl)) sss_nil)
      (sss_cons (ss_unp (se_var 0) (sg_tup (n := 2) rfl (sgs_cons (sg_name 3 (vs := [3, 4]) (sc_is_scene.nd) rfl (by first | exact Or.inl rfl | exact Or.inr rfl) (by decide)) (sgs_cons (sg_name 4 (vs := [3, 4]) (sc_is_scene.nd) rfl (by first | exact Or.inl rfl | exact Or.inr rfl) (by decide)) sgs_nil))))
      (sss_cons (ss_if (st_w (sw_or (st_not (st_tru (sb_of (se_isi (T := .tuple) (by rfl) z_isinstance (sb_var 4) (by rfl) z_tuple v_tuple)))) (sw_or1 (st_cmp (od_eq hr.units) (sb_of (se_callB cd_len (by rfl) z_len v_len (sbs_cons (sb_var 4) sbs_nil))) (sb_of se_int) (nomark _))))) (sss_one (ss_ret se_bl)) sss_nil)
      (sss_cons (ss_if (st_not (st_tru (sb_of (se_callB (cd_all rfl) (by rfl) z_all v_all (sbs_cons (sb_of (se_ofX (sx_lc (own := [("branch", 5)]) rfl (sc_is_scene.nd) (si_seq (se_var 4)) (blkOk_by (own := [("branch", 5)]) (N := N_is_scene) (sc := defScope s_is_scene) (by decide +kernel)) (fun _ _ _ _ _ => sg_name 5 (vs := [5]) (sc_is_scene.nd) rfl (by first | exact Or.inl rfl | exact Or.inr rfl) (by decide)) (fun _ _ _ _ _ => sts_nil) (fun _ _ _ _ _ => se_call c_is_branch hr (by rfl) (sa_cons (se_var 5) (sa_cons (se_var 3) (sa_cons (se_var 1) (sa_cons (se_var 2) sa_nil)))))))) sbs_nil))))) (sss_one (ss_ret se_bl)) sss_nil)
      (sss_one (ss_ret (se_call c_is_rising hr (by rfl) (sa_cons (se_ofX (sx_lc (own := [("branch", 5)]) rfl (sc_is_scene.nd) (si_seq (se_var 4)) (blkOk_by (own := [("branch", 5)]) (N := N_is_scene) (sc := defScope s_is_scene) (by decide +kernel)) (fun _ _ _ _ _ => sg_name 5 (vs := [5]) (sc_is_scene.nd) rfl (by first | exact Or.inl rfl | exact Or.inr rfl) (by decide)) (fun _ _ _ _ _ => sts_nil) (fun _ _ _ _ _ => se_sl (sb_var 5) so_none (so_some se_int)))) sa_nil))))))))
def b_check_script : FS :=
    sSeq (sIf (tNotF (fTru (fCall m_has_script_form (aCons (fVar 0) aNil)))) sNo sNil)
    (sSeq (sUnp (fVar 0) (gtTup 2 (gtCons (gtName 1) (gtCons (gtName 2) gtNil))))
    (sFor (fEn (fVar 2)) (gtTup 2 (gtCons (gtName 3) (gtCons (gtName 4) gtNil))) (sIf (tNotF (fTru (fCall m_is_scene (aCons (fVar 4) (aCons (fVar 1) (aCons (fCall gLen (aCons (fBor 2) aNil)) aNil)))))) sNo sNil)))
def m_check_script : List D → Option D := mkF 5 1 b_check_script
theorem ok_check_script {f : Addr} {fd : FuncData} {k : Nat} (F : Fun K "check_script" "check_script" s_check_script f fd) (c_is_scene : Callee P w K mg base k "is_scene" (spF K m_is_scene)) (c_has_script_form : Callee P w K mg base k "has_script_form" (spF K m_has_script_form)) (z_enumerate : mg "enumerate" = none) (z_len : mg "len" = none) : FnOk P w K mg base CX0 (k + 1) f fd ["script"] (spF K m_check_script) := by
  refine RT.ok_fn F sc_check_script (fun cdv A outer s H E hr => ?_)
  unfold b_check_script
  exact sss_cons (ss_if (st_not (st_tru (sb_of (se_call c_has_script_form hr (by rfl) (sa_cons (se_var 0) sa_nil))))) (sss_one ss_no) sss_nil)
      (sss_cons (ss_unp (se_var 0) (sg_tup (n := 2) rfl (sgs_cons (sg_name 1 (vs := [1, 2]) (sc_check_script.nd) rfl (by first | exact Or.inl rfl | exact Or.inr rfl) (by decide)) (sgs_cons (sg_name 2 (vs := [1, 2]) (sc_check_script.nd) rfl (by first | exact Or.inl rfl | exact Or.inr rfl) (by decide)) sgs_nil))))
      (sss_one (ss_for PassesOwn.never rfl (si_en (by rfl) z_enumerate (se_var 2)) (sg_tup (n := 2) rfl (sgs_cons (sg_name 3 (vs := [3, 4]) (sc_check_script.nd) rfl (by first | exact Or.inl rfl | exact Or.inr rfl) (by decide)) (sgs_cons (sg_name 4 (vs := [3, 4]) (sc_check_script.nd) rfl (by first | exact Or.inl rfl | exact Or.inr rfl) (by decide)) sgs_nil))) (sss_one (ss_if (st_not (st_tru (sb_of (se_call c_is_scene hr (by rfl) (sa_cons (se_var 4) (sa_cons (se_var 1) (sa_cons (se_callB cd_len (by rfl) z_len v_len (sbs_cons (sb_var 2) sbs_nil)) sa_nil))))))) (sss_one ss_no) sss_nil)))))
def b_coming : FS :=
    sSeq (sSet 2 (xLst (aCons (fVar 1) aNil)))
    (sSeq (sSet 3 (xDict1 (fVar 1) (fC (.bool true))))
    (sSeq (sSet 4 (xVal (fC (.int 0))))
    (sSeq (whL (fTst (fBin gLt (fBor 4) (fCall gLen (aCons (fBor 2) aNil)))) (sSeq (sSet 5 (xVal (fBin gAt (fBor 2) (fBor 4))))
    (sSeq (sFor (fSeq (fBin gAt (fBor 0) (fBor 5))) (gtTup 2 (gtCons (gtName 6) (gtCons (gtName 7) gtNil))) (sIf (fTst (fBin gNotInA (fBor 7) (fBor 3))) (sSeq (sDPut 3 (fVar 7) (fC (.bool true)))
    (sApp 2 (fVar 7))) sNil))
    (sAug 4 (fC (.int 1))))) 1000)
    (sFrz 2 (sRet (fVar 2))))))
def m_coming : List D → Option D := mkF 8 2 b_coming
theorem ok_coming {f : Addr} {fd : FuncData} {k : Nat} (F : Fun K "coming" "coming" s_coming f fd) (z_len : mg "len" = none) : FnOk P w K mg base CX0 (k + 1) f fd ["web", "start"] (spF K m_coming) := by
  refine RT.ok_fn F sc_coming (fun cdv A outer s H E hr => ?_)
  unfold b_coming
  exact sss_cons (ss_set (i := 2) (sc_coming.nd) rfl (by first | exact Or.inl rfl | exact Or.inr rfl) (sx_lst (sa_cons (se_var 1) sa_nil)))
      (sss_cons (ss_set (i := 3) (sc_coming.nd) rfl (by first | exact Or.inl rfl | exact Or.inr rfl) (sx_d1 (se_var 1) se_bl))
      (sss_cons (ss_set (i := 4) (sc_coming.nd) rfl (by first | exact Or.inl rfl | exact Or.inr rfl) (sx_of se_int))
      (sss_cons (ss_while 1000 PassesOwn.never (st_cmp (od_ltA hr.units0) (sb_var 4) (sb_of (se_callB cd_len (by rfl) z_len v_len (sbs_cons (sb_var 2) sbs_nil))) (nomark _)) (sss_cons (ss_set (i := 5) (sc_coming.nd) rfl (by first | exact Or.inl rfl | exact Or.inr rfl) (sx_of (se_at (hu_of hr) (sb_var 2) (sb_var 4))))
      (sss_cons (ss_for PassesOwn.never rfl (si_seq (se_at (hu_of hr) (sb_var 0) (sb_var 5))) (sg_tup (n := 2) rfl (sgs_cons (sg_name 6 (vs := [6, 7]) (sc_coming.nd) rfl (by first | exact Or.inl rfl | exact Or.inr rfl) (by decide)) (sgs_cons (sg_name 7 (vs := [6, 7]) (sc_coming.nd) rfl (by first | exact Or.inl rfl | exact Or.inr rfl) (by decide)) sgs_nil))) (sss_one (ss_if (st_notInA (room65 hr) (sb_var 7) (sb_var 3)) (sss_cons (ss_dput (i := 3) (hu_of hr) se_bl (se_var 7))
      (sss_one (ss_app (i := 2) (se_var 7)))) sss_nil)))
      (sss_one (ss_aug (sc_coming.nd) rfl (by first | exact Or.inl rfl | exact Or.inr rfl) se_int)))))
      (sss_one (ss_frz 2 (ss_ret (se_var 2)))))))
def b_talks_from : FS :=
    sSeq (sIf (fTst (fBin gIsN (fBor 0) (fC .none))) (sRet (fLst aNil)) sNil)
    (sSeq (sUnp (fVar 0) (gtTup 2 (gtCons (gtName 1) (gtCons (gtName 2) gtNil))))
    (sRet (fOfX (xLc (fSeq (fVar 2)) (gtTup 3 (gtCons (gtName 3) (gtCons (gtName 4) (gtCons (gtName 5) gtNil)))) tYesF (fTup (aCons (fTup (aCons (fVar 1) (aCons (fVar 3) (aCons (fVar 4) aNil)))) (aCons (fVar 5) aNil))) [3, 4, 5]))))
def m_talks_from : List D → Option D := mkF 6 1 b_talks_from
theorem ok_talks_from {f : Addr} {fd : FuncData} {k : Nat} (F : Fun K "talks_from" "talks_from" s_talks_from f fd) : FnOk P w K mg base CX0 (k + 1) f fd ["scene"] (spF K m_talks_from) := by
  refine RT.ok_fn F sc_talks_from (fun cdv A outer s H E hr => ?_)
  unfold b_talks_from
  exact sss_cons (ss_if (st_cmp od_isN (sb_var 0) (sb_of se_non) (nomark _)) (sss_one (ss_ret (se_lst sa_nil))) sss_nil)
      (sss_cons (ss_unp (se_var 0) (sg_tup (n := 2) rfl (sgs_cons (sg_name 1 (vs := [1, 2]) (sc_talks_from.nd) rfl (by first | exact Or.inl rfl | exact Or.inr rfl) (by decide)) (sgs_cons (sg_name 2 (vs := [1, 2]) (sc_talks_from.nd) rfl (by first | exact Or.inl rfl | exact Or.inr rfl) (by decide)) sgs_nil))))
      (sss_one (ss_ret (se_ofX (sx_lc (own := [("hearer", 3), ("word", 4), ("there", 5)]) rfl (sc_talks_from.nd) (si_seq (se_var 2)) (blkOk_by (own := [("hearer", 3), ("word", 4), ("there", 5)]) (N := N_talks_from) (sc := defScope s_talks_from) (by decide +kernel)) (fun _ _ _ _ _ => sg_tup (n := 3) rfl (sgs_cons (sg_name 3 (vs := [3, 4, 5]) (sc_talks_from.nd) rfl (by first | exact Or.inl rfl | exact Or.inr rfl) (by decide)) (sgs_cons (sg_name 4 (vs := [3, 4, 5]) (sc_talks_from.nd) rfl (by first | exact Or.inl rfl | exact Or.inr rfl) (by decide)) (sgs_cons (sg_name 5 (vs := [3, 4, 5]) (sc_talks_from.nd) rfl (by first | exact Or.inl rfl | exact Or.inr rfl) (by decide)) sgs_nil)))) (fun _ _ _ _ _ => sts_nil) (fun _ _ _ _ _ => se_tup (sa_cons (se_tup (sa_cons (se_var 1) (sa_cons (se_var 3) (sa_cons (se_var 4) sa_nil)))) (sa_cons (se_var 5) sa_nil))))))))
def b_talk_web : FS :=
    sRet (fOfX (xLc (fSeq (fBin gAt (fBor 0) (fC (.int 1)))) (gtName 1) tYesF (fCall m_talks_from (aCons (fVar 1) aNil)) [1]))
def m_talk_web : List D → Option D := mkF 2 1 b_talk_web
theorem ok_talk_web {f : Addr} {fd : FuncData} {k : Nat} (F : Fun K "talk_web" "talk_web" s_talk_web f fd) (c_talks_from : Callee P w K mg base k "talks_from" (spF K m_talks_from)) : FnOk P w K mg base CX0 (k + 1) f fd ["script"] (spF K m_talk_web) := by
  refine RT.ok_fn F sc_talk_web (fun cdv A outer s H E hr => ?_)
  unfold b_talk_web
  exact sss_one (ss_ret (se_ofX (sx_lc (own := [("scene", 1)]) rfl (sc_talk_web.nd) (si_seq (se_at (hu_of hr) (sb_var 0) (sb_of se_int))) (blkOk_by (own := [("scene", 1)]) (N := N_talk_web) (sc := defScope s_talk_web) (by decide +kernel)) (fun _ _ _ _ _ => sg_name 1 (vs := [1]) (sc_talk_web.nd) rfl (by first | exact Or.inl rfl | exact Or.inr rfl) (by decide)) (fun _ _ _ _ _ => sts_nil) (fun _ _ _ _ _ => se_call c_talks_from hr (by rfl) (sa_cons (se_var 1) sa_nil)))))
def b_reached_scenes : FS :=
    sSeq (sDrop (fCall m_check_script (aCons (fVar 0) aNil)))
    (sRet (fCall gTupOf (aCons (fCall gSort (aCons (fCall m_coming (aCons (fCall m_talk_web (aCons (fVar 0) aNil)) (aCons (fC (.int 0)) aNil))) aNil)) aNil)))
def m_reached_scenes : List D → Option D := mkF 1 1 b_reached_scenes
theorem ok_reached_scenes {f : Addr} {fd : FuncData} {k : Nat} (F : Fun K "reached_scenes" "reached_scenes" s_reached_scenes f fd) (c_coming : Callee P w K mg base k "coming" (spF K m_coming)) (c_talk_web : Callee P w K mg base k "talk_web" (spF K m_talk_web)) (c_check_script : Callee P w K mg base k "check_script" (spF K m_check_script)) (z_tuple : mg "tuple" = none) (z_sorted : mg "sorted" = none) : FnOk P w K mg base CX0 (k + 1) f fd ["script"] (spF K m_reached_scenes) := by
  refine RT.ok_fn F sc_reached_scenes (fun cdv A outer s H E hr => ?_)
  unfold b_reached_scenes
  exact sss_cons (ss_drop (se_call c_check_script hr (by rfl) (sa_cons (se_var 0) sa_nil)))
      (sss_one (ss_ret (se_callTy cd_tuple (by rfl) z_tuple v_tuple (sbs_cons (sb_of (se_callB cd_sortA (by rfl) z_sorted v_sorted (sbs_cons (sb_of (se_call c_coming hr (by rfl) (sa_cons (se_call c_talk_web hr (by rfl) (sa_cons (se_var 0) sa_nil)) (sa_cons se_int sa_nil)))) sbs_nil))) sbs_nil))))
def b_talks_that_come : FS :=
    sSeq (sSet 1 (xLst aNil))
    (sSeq (sFor (fSeq (fCall m_reached_scenes (aCons (fVar 0) aNil))) (gtName 2) (sExt 1 (fOfX (xLc (fSeq (fCall m_talks_from (aCons (fBin gAt (fBin gAt (fBor 0) (fC (.int 1))) (fBor 2)) aNil))) (gtTup 2 (gtCons (gtName 3) (gtCons (gtName 4) gtNil))) tYesF (fVar 3) [3, 4]))))
    (sFrz 1 (sRet (fVar 1))))
def m_talks_that_come : List D → Option D := mkF 5 1 b_talks_that_come
theorem ok_talks_that_come {f : Addr} {fd : FuncData} {k : Nat} (F : Fun K "talks_that_come" "talks_that_come" s_talks_that_come f fd) (c_reached_scenes : Callee P w K mg base k "reached_scenes" (spF K m_reached_scenes)) (c_talks_from : Callee P w K mg base k "talks_from" (spF K m_talks_from)) : FnOk P w K mg base CX0 (k + 1) f fd ["script"] (spF K m_talks_that_come) := by
  refine RT.ok_fn F sc_talks_that_come (fun cdv A outer s H E hr => ?_)
  unfold b_talks_that_come
  exact sss_cons (ss_set (i := 1) (sc_talks_that_come.nd) rfl (by first | exact Or.inl rfl | exact Or.inr rfl) (sx_lst sa_nil))
      (sss_cons (ss_for PassesOwn.never rfl (si_seq (se_call c_reached_scenes hr (by rfl) (sa_cons (se_var 0) sa_nil))) (sg_name 2 (vs := [2]) (sc_talks_that_come.nd) rfl (by first | exact Or.inl rfl | exact Or.inr rfl) (by decide)) (sss_one (ss_ext (i := 1) (se_ofX (sx_lc (own := [("talk", 3), ("_", 4)]) rfl (sc_talks_that_come.nd) (si_seq (se_call c_talks_from hr (by rfl) (sa_cons (se_at (hu_of hr) (sb_of (se_at (hu_of hr) (sb_var 0) (sb_of se_int))) (sb_var 2)) sa_nil))) (blkOk_by (own := [("talk", 3), ("_", 4)]) (N := N_talks_that_come) (sc := defScope s_talks_that_come) (by decide +kernel)) (fun _ _ _ _ _ => sg_tup (n := 2) rfl (sgs_cons (sg_name 3 (vs := [3, 4]) (sc_talks_that_come.nd) rfl (by first | exact Or.inl rfl | exact Or.inr rfl) (by decide)) (sgs_cons (sg_name 4 (vs := [3, 4]) (sc_talks_that_come.nd) rfl (by first | exact Or.inl rfl | exact Or.inr rfl) (by decide)) sgs_nil))) (fun _ _ _ _ _ => sts_nil) (fun _ _ _ _ _ => se_var 3))))))
      (sss_one (ss_frz 1 (ss_ret (se_var 1)))))
def b_speakers : FS :=
    sRet (fCall gTupOf (aCons (fSrtS (nSet (fSeq (fCall m_talks_that_come (aCons (fVar 0) aNil))) (gtTup 3 (gtCons (gtName 1) (gtCons (gtName 2) (gtCons (gtName 2) gtNil)))) tYesF (fVar 1) [1, 2])) aNil))
def m_speakers : List D → Option D := mkF 3 1 b_speakers
theorem ok_speakers {f : Addr} {fd : FuncData} {k : Nat} (F : Fun K "speakers" "speakers" s_speakers f fd) (c_talks_that_come : Callee P w K mg base k "talks_that_come" (spF K m_talks_that_come)) (z_tuple : mg "tuple" = none) (z_sorted : mg "sorted" = none) : FnOk P w K mg base CX0 (k + 1) f fd ["script"] (spF K m_speakers) := by
  refine RT.ok_fn F sc_speakers (fun cdv A outer s H E hr => ?_)
  unfold b_speakers
  exact sss_one (ss_ret (se_callTy cd_tuple (by rfl) z_tuple v_tuple (sbs_cons (sb_of (se_srtS rfl (by rfl) z_sorted (sn_comp (own := [("speaker", 1), ("_", 2)]) rfl (sc_speakers.nd) (si_seq (se_call c_talks_that_come hr (by rfl) (sa_cons (se_var 0) sa_nil))) (blkOk_by (own := [("speaker", 1), ("_", 2)]) (N := N_speakers) (sc := defScope s_speakers) (by decide +kernel)) (fun _ _ _ _ _ => sg_tup (n := 3) rfl (sgs_cons (sg_name 1 (vs := [1, 2]) (sc_speakers.nd) rfl (by first | exact Or.inl rfl | exact Or.inr rfl) (by decide)) (sgs_cons (sg_name 2 (vs := [1, 2]) (sc_speakers.nd) rfl (by first | exact Or.inl rfl | exact Or.inr rfl) (by decide)) (sgs_cons (sg_name 2 (vs := [1, 2]) (sc_speakers.nd) rfl (by first | exact Or.inl rfl | exact Or.inr rfl) (by decide)) sgs_nil)))) (fun _ _ _ _ _ => sts_nil) (fun _ _ _ _ _ => se_var 1)))) sbs_nil)))
def b_silent : FS :=
    sSeq (sSet 1 (xLst aNil))
    (sSeq (sFor (fSeq (fCall m_talks_that_come (aCons (fVar 0) aNil))) (gtTup 3 (gtCons (gtName 2) (gtCons (gtName 3) (gtCons (gtName 4) gtNil)))) (sExt 1 (fLst (aCons (fVar 2) (aCons (fVar 3) aNil)))))
    (sRet (fCall gTupOf (aCons (fOfX (xLc (fRg1 (fBin gAt (fBor 0) (fC (.int 0)))) (gtName 5) (fTst (fBin gNotInA (fBor 5) (fBor 1))) (fVar 5) [5])) aNil))))
def m_silent : List D → Option D := mkF 6 1 b_silent
theorem ok_silent {f : Addr} {fd : FuncData} {k : Nat} (F : Fun K "silent" "silent" s_silent f fd) (c_talks_that_come : Callee P w K mg base k "talks_that_come" (spF K m_talks_that_come)) (z_tuple : mg "tuple" = none) (z_range : mg "range" = none) : FnOk P w K mg base CX0 (k + 1) f fd ["script"] (spF K m_silent) := by
  refine RT.ok_fn F sc_silent (fun cdv A outer s H E hr => ?_)
  unfold b_silent
  exact sss_cons (ss_set (i := 1) (sc_silent.nd) rfl (by first | exact Or.inl rfl | exact Or.inr rfl) (sx_lst sa_nil))
      (sss_cons (ss_for PassesOwn.never rfl (si_seq (se_call c_talks_that_come hr (by rfl) (sa_cons (se_var 0) sa_nil))) (sg_tup (n := 3) rfl (sgs_cons (sg_name 2 (vs := [2, 3, 4]) (sc_silent.nd) rfl (by first | exact Or.inl rfl | exact Or.inr rfl) (by decide)) (sgs_cons (sg_name 3 (vs := [2, 3, 4]) (sc_silent.nd) rfl (by first | exact Or.inl rfl | exact Or.inr rfl) (by decide)) (sgs_cons (sg_name 4 (vs := [2, 3, 4]) (sc_silent.nd) rfl (by first | exact Or.inl rfl | exact Or.inr rfl) (by decide)) sgs_nil)))) (sss_one (ss_ext (i := 1) (se_lst (sa_cons (se_var 2) (sa_cons (se_var 3) sa_nil))))))
      (sss_one (ss_ret (se_callTy cd_tuple (by rfl) z_tuple v_tuple (sbs_cons (sb_of (se_ofX (sx_lc (own := [("actor", 5)]) rfl (sc_silent.nd) (si_rg1 (by rfl) z_range (se_at (hu_of hr) (sb_var 0) (sb_of se_int))) (blkOk_by (own := [("actor", 5)]) (N := N_silent) (sc := defScope s_silent) (by decide +kernel)) (fun _ _ _ _ _ => sg_name 5 (vs := [5]) (sc_silent.nd) rfl (by first | exact Or.inl rfl | exact Or.inr rfl) (by decide)) (fun _ _ _ _ _ => sts_one (st_notInA (room65 hr) (sb_var 5) (sb_var 1))) (fun _ _ _ _ _ => se_var 5)))) sbs_nil)))))
def b_new_names : FS :=
    sRet (fOfX (xDc (fEn (fVar 0)) (gtTup 2 (gtCons (gtName 1) (gtCons (gtName 2) gtNil))) tYesF (fVar 2) (fVar 1) [1, 2]))
def m_new_names : List D → Option D := mkF 3 1 b_new_names
theorem ok_new_names {f : Addr} {fd : FuncData} {k : Nat} (F : Fun K "new_names" "new_names" s_new_names f fd) (z_enumerate : mg "enumerate" = none) : FnOk P w K mg base CX0 (k + 1) f fd ["order"] (spF K m_new_names) := by
  refine RT.ok_fn F sc_new_names (fun cdv A outer s H E hr => ?_)
  unfold b_new_names
  exact sss_one (ss_ret (se_ofX (sx_dc (own := [("at", 1), ("place", 2)]) rfl (sc_new_names.nd) (si_en (by rfl) z_enumerate (se_var 0)) (blkOk_by (own := [("at", 1), ("place", 2)]) (N := N_new_names) (sc := defScope s_new_names) (by decide +kernel)) (fun _ _ _ _ _ => sg_tup (n := 2) rfl (sgs_cons (sg_name 1 (vs := [1, 2]) (sc_new_names.nd) rfl (by first | exact Or.inl rfl | exact Or.inr rfl) (by decide)) (sgs_cons (sg_name 2 (vs := [1, 2]) (sc_new_names.nd) rfl (by first | exact Or.inl rfl | exact Or.inr rfl) (by decide)) sgs_nil))) (fun _ _ _ _ _ => sts_nil) (fun _ _ _ _ _ => se_var 2) (fun _ _ _ _ _ => se_var 1))))
def b_renamed_scene : FS :=
    sSeq (sIf (fTst (fBin gIsN (fBor 0) (fC .none))) (sRet (fC .none)) sNil)
    (sSeq (sUnp (fVar 0) (gtTup 2 (gtCons (gtName 2) (gtCons (gtName 3) gtNil))))
    (sRet (fTup (aCons (fVar 2) (aCons (fCall gTupOf (aCons (fOfX (xLc (fSeq (fVar 3)) (gtTup 3 (gtCons (gtName 4) (gtCons (gtName 5) (gtCons (gtName 6) gtNil)))) tYesF (fTup (aCons (fVar 4) (aCons (fVar 5) (aCons (fBin gAt (fBor 1) (fBor 6)) aNil)))) [4, 5, 6])) aNil)) aNil)))))
def m_renamed_scene : List D → Option D := mkF 7 2 b_renamed_scene
theorem ok_renamed_scene {f : Addr} {fd : FuncData} {k : Nat} (F : Fun K "renamed_scene" "renamed_scene" s_renamed_scene f fd) (z_tuple : mg "tuple" = none) : FnOk P w K mg base CX0 (k + 1) f fd ["scene", "names"] (spF K m_renamed_scene) := by
  refine RT.ok_fn F sc_renamed_scene (fun cdv A outer s H E hr => ?_)
  unfold b_renamed_scene
  exact sss_cons (ss_if (st_cmp od_isN (sb_var 0) (sb_of se_non) (nomark _)) (sss_one (ss_ret se_non)) sss_nil)
      (sss_cons (ss_unp (se_var 0) (sg_tup (n := 2) rfl (sgs_cons (sg_name 2 (vs := [2, 3]) (sc_renamed_scene.nd) rfl (by first | exact Or.inl rfl | exact Or.inr rfl) (by decide)) (sgs_cons (sg_name 3 (vs := [2, 3]) (sc_renamed_scene.nd) rfl (by first | exact Or.inl rfl | exact Or.inr rfl) (by decide)) sgs_nil))))
      (sss_one (ss_ret (se_tup (sa_cons (se_var 2) (sa_cons (se_callTy cd_tuple (by rfl) z_tuple v_tuple (sbs_cons (sb_of (se_ofX (sx_lc (own := [("hearer", 4), ("word", 5), ("there", 6)]) rfl (sc_renamed_scene.nd) (si_seq (se_var 3)) (blkOk_by (own := [("hearer", 4), ("word", 5), ("there", 6)]) (N := N_renamed_scene) (sc := defScope s_renamed_scene) (by decide +kernel)) (fun _ _ _ _ _ => sg_tup (n := 3) rfl (sgs_cons (sg_name 4 (vs := [4, 5, 6]) (sc_renamed_scene.nd) rfl (by first | exact Or.inl rfl | exact Or.inr rfl) (by decide)) (sgs_cons (sg_name 5 (vs := [4, 5, 6]) (sc_renamed_scene.nd) rfl (by first | exact Or.inl rfl | exact Or.inr rfl) (by decide)) (sgs_cons (sg_name 6 (vs := [4, 5, 6]) (sc_renamed_scene.nd) rfl (by first | exact Or.inl rfl | exact Or.inr rfl) (by decide)) sgs_nil)))) (fun _ _ _ _ _ => sts_nil) (fun _ _ _ _ _ => se_tup (sa_cons (se_var 4) (sa_cons (se_var 5) (sa_cons (se_at (hu_of hr) (sb_var 1) (sb_var 6)) sa_nil))))))) sbs_nil)) sa_nil))))))
def b_trimmed : FS :=
    sSeq (sDrop (fCall m_check_script (aCons (fVar 0) aNil)))
    (sSeq (sUnp (fVar 0) (gtTup 2 (gtCons (gtName 1) (gtCons (gtName 2) gtNil))))
    (sSeq (sSet 3 (xVal (fCall m_coming (aCons (fCall m_talk_web (aCons (fVar 0) aNil)) (aCons (fC (.int 0)) aNil)))))
    (sSeq (sSet 4 (xVal (fCall m_new_names (aCons (fVar 3) aNil))))
    (sRet (fTup (aCons (fVar 1) (aCons (fCall gTupOf (aCons (fOfX (xLc (fSeq (fVar 3)) (gtName 5) tYesF (fCall m_renamed_scene (aCons (fBin gAt (fBor 2) (fBor 5)) (aCons (fVar 4) aNil))) [5])) aNil)) aNil)))))))
def m_trimmed : List D → Option D := mkF 6 1 b_trimmed
theorem ok_trimmed {f : Addr} {fd : FuncData} {k : Nat} (F : Fun K "trimmed" "trimmed" s_trimmed f fd) (c_renamed_scene : Callee P w K mg base k "renamed_scene" (spF K m_renamed_scene)) (c_new_names : Callee P w K mg base k "new_names" (spF K m_new_names)) (c_coming : Callee P w K mg base k "coming" (spF K m_coming)) (c_talk_web : Callee P w K mg base k "talk_web" (spF K m_talk_web)) (c_check_script : Callee P w K mg base k "check_script" (spF K m_check_script)) (z_tuple : mg "tuple" = none) : FnOk P w K mg base CX0 (k + 1) f fd ["script"] (spF K m_trimmed) := by
  refine RT.ok_fn F sc_trimmed (fun cdv A outer s H E hr => ?_)
  unfold b_trimmed
  exact sss_cons (ss_drop (se_call c_check_script hr (by rfl) (sa_cons (se_var 0) sa_nil)))
      (sss_cons (ss_unp (se_var 0) (sg_tup (n := 2) rfl (sgs_cons (sg_name 1 (vs := [1, 2]) (sc_trimmed.nd) rfl (by first | exact Or.inl rfl | exact Or.inr rfl) (by decide)) (sgs_cons (sg_name 2 (vs := [1, 2]) (sc_trimmed.nd) rfl (by first | exact Or.inl rfl | exact Or.inr rfl) (by decide)) sgs_nil))))
      (sss_cons (ss_set (i := 3) (sc_trimmed.nd) rfl (by first | exact Or.inl rfl | exact Or.inr rfl) (sx_of (se_call c_coming hr (by rfl) (sa_cons (se_call c_talk_web hr (by rfl) (sa_cons (se_var 0) sa_nil)) (sa_cons se_int sa_nil)))))
      (sss_cons (ss_set (i := 4) (sc_trimmed.nd) rfl (by first | exact Or.inl rfl | exact Or.inr rfl) (sx_of (se_call c_new_names hr (by rfl) (sa_cons (se_var 3) sa_nil))))
      (sss_one (ss_ret (se_tup (sa_cons (se_var 1) (sa_cons (se_callTy cd_tuple (by rfl) z_tuple v_tuple (sbs_cons (sb_of (se_ofX (sx_lc (own := [("scene", 5)]) rfl (sc_trimmed.nd) (si_seq (se_var 3)) (blkOk_by (own := [("scene", 5)]) (N := N_trimmed) (sc := defScope s_trimmed) (by decide +kernel)) (fun _ _ _ _ _ => sg_name 5 (vs := [5]) (sc_trimmed.nd) rfl (by first | exact Or.inl rfl | exact Or.inr rfl) (by decide)) (fun _ _ _ _ _ => sts_nil) (fun _ _ _ _ _ => se_call c_renamed_scene hr (by rfl) (sa_cons (se_at (hu_of hr) (sb_var 2) (sb_var 5)) (sa_cons (se_var 4) sa_nil)))))) sbs_nil)) sa_nil))))))))
def b_end_scenes : FS :=
    sRet (fCall gTupOf (aCons (fOfX (xLc (fSeq (fCall m_reached_scenes (aCons (fVar 0) aNil))) (gtName 1) (fTst (fBin gIsN (fBin gAt (fBin gAt (fBor 0) (fC (.int 1))) (fBor 1)) (fC .none))) (fVar 1) [1])) aNil))
def m_end_scenes : List D → Option D := mkF 2 1 b_end_scenes
theorem ok_end_scenes {f : Addr} {fd : FuncData} {k : Nat} (F : Fun K "end_scenes" "end_scenes" s_end_scenes f fd) (c_reached_scenes : Callee P w K mg base k "reached_scenes" (spF K m_reached_scenes)) (z_tuple : mg "tuple" = none) : FnOk P w K mg base CX0 (k + 1) f fd ["script"] (spF K m_end_scenes) := by
  refine RT.ok_fn F sc_end_scenes (fun cdv A outer s H E hr => ?_)
  unfold b_end_scenes
  exact sss_one (ss_ret (se_callTy cd_tuple (by rfl) z_tuple v_tuple (sbs_cons (sb_of (se_ofX (sx_lc (own := [("scene", 1)]) rfl (sc_end_scenes.nd) (si_seq (se_call c_reached_scenes hr (by rfl) (sa_cons (se_var 0) sa_nil))) (blkOk_by (own := [("scene", 1)]) (N := N_end_scenes) (sc := defScope s_end_scenes) (by decide +kernel)) (fun _ _ _ _ _ => sg_name 1 (vs := [1]) (sc_end_scenes.nd) rfl (by first | exact Or.inl rfl | exact Or.inr rfl) (by decide)) (fun _ _ _ _ _ => sts_one (st_cmp od_isN (sb_of (se_at (hu_of hr) (sb_of (se_at (hu_of hr) (sb_var 0) (sb_of se_int))) (sb_var 1))) (sb_of se_non) (nomark _))) (fun _ _ _ _ _ => se_var 1)))) sbs_nil)))
def b_has_rounds : FS :=
    sSeq (sDrop (fCall m_check_script (aCons (fVar 0) aNil)))
    (sSeq (sSet 1 (xVal (fCall m_talk_web (aCons (fVar 0) aNil))))
    (sSeq (sFor (fSeq (fCall m_coming (aCons (fVar 1) (aCons (fC (.int 0)) aNil)))) (gtName 2) (sFor (fSeq (fBin gAt (fBor 1) (fBor 2))) (gtTup 2 (gtCons (gtName 3) (gtCons (gtName 4) gtNil))) (sIf (fTst (fBin gInA (fBor 2) (fCall m_coming (aCons (fVar 1) (aCons (fVar 4) aNil))))) (sRet (fC (.bool true))) sNil)))
    (sRet (fC (.bool false)))))
def m_has_rounds : List D → Option D := mkF 5 1 b_has_rounds
theorem ok_has_rounds {f : Addr} {fd : FuncData} {k : Nat} (F : Fun K "has_rounds" "has_rounds" s_has_rounds f fd) (c_coming : Callee P w K mg base k "coming" (spF K m_coming)) (c_talk_web : Callee P w K mg base k "talk_web" (spF K m_talk_web)) (c_check_script : Callee P w K mg base k "check_script" (spF K m_check_script)) : FnOk P w K mg base CX0 (k + 1) f fd ["script"] (spF K m_has_rounds) := by
  refine RT.ok_fn F sc_has_rounds (fun cdv A outer s H E hr => ?_)
  unfold b_has_rounds
  exact sss_cons (ss_drop (se_call c_check_script hr (by rfl) (sa_cons (se_var 0) sa_nil)))
      (sss_cons (ss_set (i := 1) (sc_has_rounds.nd) rfl (by first | exact Or.inl rfl | exact Or.inr rfl) (sx_of (se_call c_talk_web hr (by rfl) (sa_cons (se_var 0) sa_nil))))
      (sss_cons (ss_for PassesOwn.never rfl (si_seq (se_call c_coming hr (by rfl) (sa_cons (se_var 1) (sa_cons se_int sa_nil)))) (sg_name 2 (vs := [2]) (sc_has_rounds.nd) rfl (by first | exact Or.inl rfl | exact Or.inr rfl) (by decide)) (sss_one (ss_for PassesOwn.never rfl (si_seq (se_at (hu_of hr) (sb_var 1) (sb_var 2))) (sg_tup (n := 2) rfl (sgs_cons (sg_name 3 (vs := [3, 4]) (sc_has_rounds.nd) rfl (by first | exact Or.inl rfl | exact Or.inr rfl) (by decide)) (sgs_cons (sg_name 4 (vs := [3, 4]) (sc_has_rounds.nd) rfl (by first | exact Or.inl rfl | exact Or.inr rfl) (by decide)) sgs_nil))) (sss_one (ss_if (st_inA (room65 hr) (sb_var 2) (sb_of (se_call c_coming hr (by rfl) (sa_cons (se_var 1) (sa_cons (se_var 4) sa_nil))))) (sss_one (ss_ret se_bl)) sss_nil)))))
      (sss_one (ss_ret se_bl))))
def b_always_ends : FS :=
    sSeq (sDrop (fCall m_check_script (aCons (fVar 0) aNil)))
    (sSeq (sSet 1 (xVal (fCall m_talk_web (aCons (fVar 0) aNil))))
    (sSeq (sFor (fSeq (fCall m_coming (aCons (fVar 1) (aCons (fC (.int 0)) aNil)))) (gtName 2) (sIf (tNotF (fTru (fCall gAny (aCons (fOfX (xLc (fSeq (fCall m_coming (aCons (fVar 1) (aCons (fVar 2) aNil)))) (gtName 3) tYesF (fBin gIsN (fBin gAt (fBin gAt (fBor 0) (fC (.int 1))) (fBor 3)) (fC .none)) [3])) aNil)))) (sRet (fC (.bool false))) sNil))
    (sRet (fC (.bool true)))))
def m_always_ends : List D → Option D := mkF 4 1 b_always_ends
theorem ok_always_ends {f : Addr} {fd : FuncData} {k : Nat} (F : Fun K "always_ends" "always_ends" s_always_ends f fd) (c_coming : Callee P w K mg base k "coming" (spF K m_coming)) (c_talk_web : Callee P w K mg base k "talk_web" (spF K m_talk_web)) (c_check_script : Callee P w K mg base k "check_script" (spF K m_check_script)) (z_any : mg "any" = none) : FnOk P w K mg base CX0 (k + 1) f fd ["script"] (spF K m_always_ends) := by
  refine RT.ok_fn F sc_always_ends (fun cdv A outer s H E hr => ?_)
  unfold b_always_ends
  exact sss_cons (ss_drop (se_call c_check_script hr (by rfl) (sa_cons (se_var 0) sa_nil)))
      (sss_cons (ss_set (i := 1) (sc_always_ends.nd) rfl (by first | exact Or.inl rfl | exact Or.inr rfl) (sx_of (se_call c_talk_web hr (by rfl) (sa_cons (se_var 0) sa_nil))))
      (sss_cons (ss_for PassesOwn.never rfl (si_seq (se_call c_coming hr (by rfl) (sa_cons (se_var 1) (sa_cons se_int sa_nil)))) (sg_name 2 (vs := [2]) (sc_always_ends.nd) rfl (by first | exact Or.inl rfl | exact Or.inr rfl) (by decide)) (sss_one (ss_if (st_not (st_tru (sb_of (se_callB (cd_any rfl) (by rfl) z_any v_any (sbs_cons (sb_of (se_ofX (sx_lc (own := [("there", 3)]) rfl (sc_always_ends.nd) (si_seq (se_call c_coming hr (by rfl) (sa_cons (se_var 1) (sa_cons (se_var 2) sa_nil)))) (blkOk_by (own := [("there", 3)]) (N := N_always_ends) (sc := defScope s_always_ends) (by decide +kernel)) (fun _ _ _ _ _ => sg_name 3 (vs := [3]) (sc_always_ends.nd) rfl (by first | exact Or.inl rfl | exact Or.inr rfl) (by decide)) (fun _ _ _ _ _ => sts_nil) (fun _ _ _ _ _ => se_cmp od_isN (sb_of (se_at (hu_of hr) (sb_of (se_at (hu_of hr) (sb_var 0) (sb_of se_int))) (sb_var 3))) (sb_of se_non) (nomark _))))) sbs_nil))))) (sss_one (ss_ret se_bl)) sss_nil)))
      (sss_one (ss_ret se_bl))))
def b_law : FS :=
    sSeq (sSet 2 (xVal (fCallR 1 m_law_script (aCons (fBin gAdd (fC (.int 2)) (fCallR 1 m_law_taken (aCons (fC (.int 3)) aNil))) (aCons (fC (.int 6)) (aCons (fBin gEq (fCallR 1 m_law_taken (aCons (fC (.int 2)) aNil)) (fC (.int 0))) aNil))))))
    (sSeq (sSet 3 (xVal (fCall m_law_coming (aCons (fVar 2) (aCons (fC (.int 0)) aNil)))))
    (sSeq (sSet 5 (xVal (fOfX (xLc (fSeq (fVar 3)) (gtName 4) (fTst (fBin gIsN (fBin gAt (fBin gAt (fBor 2) (fC (.int 1))) (fBor 4)) (fC .none))) (fVar 4) [4]))))
    (sSeq (sIf (tOrF (tNotF (fTru (fCall (m_law_alike 9) (aCons (fCall m_reached_scenes (aCons (fVar 2) aNil)) (aCons (fCall gTupOf (aCons (fBor 3) aNil)) aNil))))) (tNotF (fTru (fCall (m_law_alike 9) (aCons (fCall m_end_scenes (aCons (fVar 2) aNil)) (aCons (fCall gTupOf (aCons (fBor 5) aNil)) aNil)))))) (sRet (fC (.bool false))) sNil)
    (sSeq (sPars [6, 7, 8, 9] (xsCons (xVal (fC (.bool false))) (xsCons (xVal (fC (.bool true))) (xsCons (xNew (.dk [])) (xsCons (xNew (.dk [])) xsNil)))))
    (sSeq (sFor (fSeq (fVar 3)) (gtName 4) (sSeq (sSet 10 (xVal (fLst aNil)))
    (sSeq (sFor (fSeq (fCall m_law_branches (aCons (fVar 2) (aCons (fVar 4) aNil)))) (gtName 11) (sSeq (sSet 10 (xVal (fBin gAdd (fBor 10) (fCall m_law_coming (aCons (fVar 2) (aCons (fBin gAt (fBor 11) (fC (.int 2))) aNil))))))
    (sSeq (sDPut 8 (fBin gAt (fBin gAt (fBin gAt (fBor 2) (fC (.int 1))) (fBor 4)) (fC (.int 0))) (fC (.bool true)))
    (sSeq (sDPut 9 (fBin gAt (fBin gAt (fBin gAt (fBor 2) (fC (.int 1))) (fBor 4)) (fC (.int 0))) (fC (.bool true)))
    (sDPut 8 (fBin gAt (fBor 11) (fC (.int 0))) (fC (.bool true)))))))
    (sSeq (sSet 6 (xVal (fOr (fVar 6) (fBin gInA (fBor 4) (fBor 10)))))
    (sSet 7 (xVal (fAnd (fVar 7) (fBin gNe (fOfX (xLc (fSeq (fCall m_law_coming (aCons (fVar 2) (aCons (fVar 4) aNil)))) (gtName 16) (fTst (fBin gInA (fBor 16) (fBor 5))) (fVar 16) [16])) (fLst aNil)))))))))
    (sSeq (sIf (tOrF (tNotF (fTru (fCall (m_law_alike 9) (aCons (fCall m_has_rounds (aCons (fVar 2) aNil)) (aCons (fVar 6) aNil))))) (tNotF (fTru (fCall (m_law_alike 9) (aCons (fCall m_always_ends (aCons (fVar 2) aNil)) (aCons (fVar 7) aNil)))))) (sRet (fC (.bool false))) sNil)
    (sSeq (sIf (tNotF (fTru (fCall (m_law_alike 9) (aCons (fCall m_speakers (aCons (fVar 2) aNil)) (aCons (fCall gTupOf (aCons (fCall gSort (aCons (fCall gListOf (aCons (fBor 9) aNil)) aNil)) aNil)) aNil))))) (sRet (fC (.bool false))) sNil)
    (sSeq (sIf (tNotF (fTru (fCall (m_law_alike 9) (aCons (fCall m_silent (aCons (fVar 2) aNil)) (aCons (fCall gTupOf (aCons (fOfX (xLc (fRg1 (fBin gAt (fBor 2) (fC (.int 0)))) (gtName 17) (fTst (fBin gNotInA (fBor 17) (fBor 8))) (fVar 17) [17])) aNil)) aNil))))) (sRet (fC (.bool false))) sNil)
    (sSeq (sPars [12, 13] (xsCons (xVal (fLst (aCons (fC (.int 0)) aNil))) (xsCons (xVal (fC (.int 0))) xsNil)))
    (sSeq (whL (tAndF (fTst (fBin gLt (fBor 13) (fCall gLen (aCons (fBor 12) aNil)))) (fTst (fBin gLt (fBor 13) (fC (.int 10))))) (sSeq (sFor (fSeq (fCall m_law_branches (aCons (fVar 2) (aCons (fBin gAt (fBor 12) (fBor 13)) aNil)))) (gtName 11) (sSet 12 (xVal (fBin gAdd (fBor 12) (fBin gMul (fLst (aCons (fBin gAt (fBor 11) (fC (.int 2))) aNil)) (fCall gInt (aCons (fBin gNotInA (fBin gAt (fBor 11) (fC (.int 2))) (fBor 12)) aNil)))))))
    (sSet 13 (xVal (fBin gAdd (fBor 13) (fC (.int 1)))))) 1000)
    (sSeq (sSet 14 (xLst aNil))
    (sSeq (sFor (fSeq (fVar 12)) (gtName 4) (sSeq (sSet 15 (xVal (fBin gAt (fBin gAt (fBor 2) (fC (.int 1))) (fBor 4))))
    (sApp 14 (fIf (fTst (fBin gIsN (fBor 15) (fC .none))) (fC .none) (fTup (aCons (fBin gAt (fBor 15) (fC (.int 0))) (aCons (fCall gTupOf (aCons (fOfX (xLc (fSeq (fBin gAt (fBor 15) (fC (.int 1)))) (gtName 11) tYesF (fBin gAdd (fSl (fBor 11) oNone (oSome (fC (.int 2)))) (fTup (aCons (fIndex (fBor 12) (fBin gAt (fBor 11) (fC (.int 2)))) aNil))) [11])) aNil)) aNil)))))))
    (sRet (fAnd (fCall (m_law_alike 9) (aCons (fCall m_trimmed (aCons (fVar 2) aNil)) (aCons (fTup (aCons (fBin gAt (fBor 2) (fC (.int 0))) (aCons (fCall gTupOf (aCons (fBor 14) aNil)) aNil))) aNil))) (fBin gEq (fCall m_trimmed (aCons (fCall m_trimmed (aCons (fVar 2) aNil)) aNil)) (fCall m_trimmed (aCons (fVar 2) aNil)))))))))))))))))
theorem ok_law {f : Addr} {fd : FuncData} {k : Nat} (F : Fun K "law" "law" s_law f fd) (c_trimmed : Callee P w K mg base k "trimmed" (spF K m_trimmed)) (c_law_alike : Callee P w K mg base k "_law_alike" (spF K (m_law_alike 9))) (c_law_branches : Callee P w K mg base k "_law_branches" (spF K m_law_branches)) (c_silent : Callee P w K mg base k "silent" (spF K m_silent)) (c_speakers : Callee P w K mg base k "speakers" (spF K m_speakers)) (c_always_ends : Callee P w K mg base k "always_ends" (spF K m_always_ends)) (c_has_rounds : Callee P w K mg base k "has_rounds" (spF K m_has_rounds)) (c_law_coming : Callee P w K mg base k "_law_coming" (spF K m_law_coming)) (c_end_scenes : Callee P w K mg base k "end_scenes" (spF K m_end_scenes)) (c_reached_scenes : Callee P w K mg base k "reached_scenes" (spF K m_reached_scenes)) (c_law_script : Callee P w K mg base k "_law_script" (spR K m_law_script)) (c_law_taken : Callee P w K mg base k "_law_taken" (spR K m_law_taken)) (z_tuple : mg "tuple" = none) (z_len : mg "len" = none) (z_int : mg "int" = none) (z_range : mg "range" = none) (z_sorted : mg "sorted" = none) (z_list : mg "list" = none) : FnOk P w K mg base CX0 (k + 1) f fd ["script"] (spLaw K b_law 16 10100) := by
  refine RT.ok_law F sc_law rfl (fun cdv A outer s H E => ps_set (i := 1) sc_law.nd rfl (by first | exact Or.inl rfl | exact Or.inr rfl) (pe_lst (pa_cons (pv 0) (pa_cons pe_int (pa_cons pe_int (pa_cons pe_int pa_nil)))))) (fun cdv A outer s H E hr => ?_)
  unfold b_law
  exact sss_cons (ss_set (i := 2) (sc_law.nd) rfl (by first | exact Or.inl rfl | exact Or.inr rfl) (sx_of (se_callR (i := 1) c_law_script hr (by rfl) (sa_cons (se_op od_addA (sb_of se_int) (sb_of (se_callR (i := 1) c_law_taken hr (by rfl) (sa_cons se_int sa_nil)))) (sa_cons se_int (sa_cons (se_cmp (od_eq hr.units) (sb_of (se_callR (i := 1) c_law_taken hr (by rfl) (sa_cons se_int sa_nil))) (sb_of se_int) (nomark _)) sa_nil))))))
      (sss_cons (ss_set (i := 3) (sc_law.nd) rfl (by first | exact Or.inl rfl | exact Or.inr rfl) (sx_of (se_call c_law_coming hr (by rfl) (sa_cons (se_var 2) (sa_cons se_int sa_nil)))))
      (sss_cons (ss_set (i := 5) (sc_law.nd) rfl (by first | exact Or.inl rfl | exact Or.inr rfl) (sx_of (se_ofX (sx_lc (own := [("scene", 4)]) rfl (sc_law.nd) (si_seq (se_var 3)) (blkOk_by (own := [("scene", 4)]) (N := N_law) (sc := defScope s_law) (by decide +kernel)) (fun _ _ _ _ _ => sg_name 4 (vs := [4]) (sc_law.nd) rfl (by first | exact Or.inl rfl | exact Or.inr rfl) (by decide)) (fun _ _ _ _ _ => sts_one (st_cmp od_isN (sb_of (se_at (hu_of hr) (sb_of (se_at (hu_of hr) (sb_var 2) (sb_of se_int))) (sb_var 4))) (sb_of se_non) (nomark _))) (fun _ _ _ _ _ => se_var 4)))))
      (sss_cons (ss_if (st_w (sw_or (st_not (st_tru (sb_of (se_call c_law_alike hr (by rfl) (sa_cons (se_call c_reached_scenes hr (by rfl) (sa_cons (se_var 2) sa_nil)) (sa_cons (se_callTy cd_tuple (by rfl) z_tuple v_tuple (sbs_cons (sb_var 3) sbs_nil)) sa_nil)))))) (sw_or1 (st_not (st_tru (sb_of (se_call c_law_alike hr (by rfl) (sa_cons (se_call c_end_scenes hr (by rfl) (sa_cons (se_var 2) sa_nil)) (sa_cons (se_callTy cd_tuple (by rfl) z_tuple v_tuple (sbs_cons (sb_var 5) sbs_nil)) sa_nil))))))))) (sss_one (ss_ret se_bl)) sss_nil)
      (sss_cons (ss_parT (is := [6, 7, 8, 9]) rfl (sc_law.nd) (.cons rfl (by first | exact Or.inl rfl | exact Or.inr rfl) (Or.inl rfl) rfl (.cons rfl (by first | exact Or.inl rfl | exact Or.inr rfl) (Or.inl rfl) rfl (.cons rfl (by first | exact Or.inl rfl | exact Or.inr rfl) (Or.inl rfl) rfl (.cons rfl (by first | exact Or.inl rfl | exact Or.inr rfl) (Or.inl rfl) rfl .nil)))) (sxs_cons (sx_of se_bl) (sxs_cons (sx_of se_bl) (sxs_cons sx_dK (sxs_cons sx_dK sxs_nil)))) (by decide) rfl rfl rfl rfl rfl)
      (sss_cons (ss_for PassesOwn.never rfl (si_seq (se_var 3)) (sg_name 4 (vs := [4]) (sc_law.nd) rfl (by first | exact Or.inl rfl | exact Or.inr rfl) (by decide)) (sss_cons (ss_set (i := 10) (sc_law.nd) rfl (by first | exact Or.inl rfl | exact Or.inr rfl) (sx_of (se_lst sa_nil)))
      (sss_cons (ss_for PassesOwn.never rfl (si_seq (se_call c_law_branches hr (by rfl) (sa_cons (se_var 2) (sa_cons (se_var 4) sa_nil)))) (sg_name 11 (vs := [11]) (sc_law.nd) rfl (by first | exact Or.inl rfl | exact Or.inr rfl) (by decide)) (sss_cons (ss_set (i := 10) (sc_law.nd) rfl (by first | exact Or.inl rfl | exact Or.inr rfl) (sx_of (se_op od_addA (sb_var 10) (sb_of (se_call c_law_coming hr (by rfl) (sa_cons (se_var 2) (sa_cons (se_at (hu_of hr) (sb_var 11) (sb_of se_int)) sa_nil)))))))
      (sss_cons (ss_dput (i := 8) (hu_of hr) se_bl (se_at (hu_of hr) (sb_of (se_at (hu_of hr) (sb_of (se_at (hu_of hr) (sb_var 2) (sb_of se_int))) (sb_var 4))) (sb_of se_int)))
      (sss_cons (ss_dput (i := 9) (hu_of hr) se_bl (se_at (hu_of hr) (sb_of (se_at (hu_of hr) (sb_of (se_at (hu_of hr) (sb_var 2) (sb_of se_int))) (sb_var 4))) (sb_of se_int)))
      (sss_one (ss_dput (i := 8) (hu_of hr) se_bl (se_at (hu_of hr) (sb_var 11) (sb_of se_int))))))))
      (sss_cons (ss_set (i := 6) (sc_law.nd) rfl (by first | exact Or.inl rfl | exact Or.inr rfl) (sx_of (se_or (se_var 6) (se_one (se_inA (room65 hr) (sb_var 4) (sb_var 10))))))
      (sss_one (ss_set (i := 7) (sc_law.nd) rfl (by first | exact Or.inl rfl | exact Or.inr rfl) (sx_of (se_and (se_var 7) (se_one (se_cmp (od_ne hr.units) (sb_of (se_ofX (sx_lc (own := [("there", 16)]) rfl (sc_law.nd) (si_seq (se_call c_law_coming hr (by rfl) (sa_cons (se_var 2) (sa_cons (se_var 4) sa_nil)))) (blkOk_by (own := [("there", 16)]) (N := N_law) (sc := defScope s_law) (by decide +kernel)) (fun _ _ _ _ _ => sg_name 16 (vs := [16]) (sc_law.nd) rfl (by first | exact Or.inl rfl | exact Or.inr rfl) (by decide)) (fun _ _ _ _ _ => sts_one (st_inA (room65 hr) (sb_var 16) (sb_var 5))) (fun _ _ _ _ _ => se_var 16)))) (sb_of (se_lst sa_nil)) (nomark _)))))))))))
      (sss_cons (ss_if (st_w (sw_or (st_not (st_tru (sb_of (se_call c_law_alike hr (by rfl) (sa_cons (se_call c_has_rounds hr (by rfl) (sa_cons (se_var 2) sa_nil)) (sa_cons (se_var 6) sa_nil)))))) (sw_or1 (st_not (st_tru (sb_of (se_call c_law_alike hr (by rfl) (sa_cons (se_call c_always_ends hr (by rfl) (sa_cons (se_var 2) sa_nil)) (sa_cons (se_var 7) sa_nil))))))))) (sss_one (ss_ret se_bl)) sss_nil)
      (sss_cons (ss_if (st_not (st_tru (sb_of (se_call c_law_alike hr (by rfl) (sa_cons (se_call c_speakers hr (by rfl) (sa_cons (se_var 2) sa_nil)) (sa_cons (se_callTy cd_tuple (by rfl) z_tuple v_tuple (sbs_cons (sb_of (se_callB cd_sortA (by rfl) z_sorted v_sorted (sbs_cons (sb_of (se_callTy (cd_list rfl) (by rfl) z_list v_list (sbs_cons (sb_var 9) sbs_nil))) sbs_nil))) sbs_nil)) sa_nil)))))) (sss_one (ss_ret se_bl)) sss_nil)
      (sss_cons (ss_if (st_not (st_tru (sb_of (se_call c_law_alike hr (by rfl) (sa_cons (se_call c_silent hr (by rfl) (sa_cons (se_var 2) sa_nil)) (sa_cons (se_callTy cd_tuple (by rfl) z_tuple v_tuple (sbs_cons (sb_of (se_ofX (sx_lc (own := [("actor", 17)]) rfl (sc_law.nd) (si_rg1 (by rfl) z_range (se_at (hu_of hr) (sb_var 2) (sb_of se_int))) (blkOk_by (own := [("actor", 17)]) (N := N_law) (sc := defScope s_law) (by decide +kernel)) (fun _ _ _ _ _ => sg_name 17 (vs := [17]) (sc_law.nd) rfl (by first | exact Or.inl rfl | exact Or.inr rfl) (by decide)) (fun _ _ _ _ _ => sts_one (st_notInA (room65 hr) (sb_var 17) (sb_var 8))) (fun _ _ _ _ _ => se_var 17)))) sbs_nil)) sa_nil)))))) (sss_one (ss_ret se_bl)) sss_nil)
      (sss_cons (ss_parT (is := [12, 13]) rfl (sc_law.nd) (.cons rfl (by first | exact Or.inl rfl | exact Or.inr rfl) (Or.inl rfl) rfl (.cons rfl (by first | exact Or.inl rfl | exact Or.inr rfl) (Or.inl rfl) rfl .nil)) (sxs_cons (sx_of (se_lst (sa_cons se_int sa_nil))) (sxs_cons (sx_of se_int) sxs_nil)) (by decide) rfl rfl rfl rfl rfl)
      (sss_cons (ss_while 1000 PassesOwn.never (st_w (sw_and (st_cmp (od_ltA hr.units0) (sb_var 13) (sb_of (se_callB cd_len (by rfl) z_len v_len (sbs_cons (sb_var 12) sbs_nil))) (nomark _)) (sw_and1 (st_cmp (od_ltA hr.units0) (sb_var 13) (sb_of se_int) (nomark _))))) (sss_cons (ss_for PassesOwn.never rfl (si_seq (se_call c_law_branches hr (by rfl) (sa_cons (se_var 2) (sa_cons (se_at (hu_of hr) (sb_var 12) (sb_var 13)) sa_nil)))) (sg_name 11 (vs := [11]) (sc_law.nd) rfl (by first | exact Or.inl rfl | exact Or.inr rfl) (by decide)) (sss_one (ss_set (i := 12) (sc_law.nd) rfl (by first | exact Or.inl rfl | exact Or.inr rfl) (sx_of (se_op od_addA (sb_var 12) (sb_of (se_op od_mulA (sb_of (se_lst (sa_cons (se_at (hu_of hr) (sb_var 11) (sb_of se_int)) sa_nil))) (sb_of (se_callTy cd_int (by rfl) z_int v_int (sbs_cons (sb_of (se_notInA (room65 hr) (sb_of (se_at (hu_of hr) (sb_var 11) (sb_of se_int))) (sb_var 12))) sbs_nil))))))))))
      (sss_one (ss_set (i := 13) (sc_law.nd) rfl (by first | exact Or.inl rfl | exact Or.inr rfl) (sx_of (se_op od_addA (sb_var 13) (sb_of se_int)))))))
      (sss_cons (ss_set (i := 14) (sc_law.nd) rfl (by first | exact Or.inl rfl | exact Or.inr rfl) (sx_lst sa_nil))
      (sss_cons (ss_for PassesOwn.never rfl (si_seq (se_var 12)) (sg_name 4 (vs := [4]) (sc_law.nd) rfl (by first | exact Or.inl rfl | exact Or.inr rfl) (by decide)) (sss_cons (ss_set (i := 15) (sc_law.nd) rfl (by first | exact Or.inl rfl | exact Or.inr rfl) (sx_of (se_at (hu_of hr) (sb_of (se_at (hu_of hr) (sb_var 2) (sb_of se_int))) (sb_var 4))))
      (sss_one (ss_app (i := 14) (se_if (st_cmp od_isN (sb_var 15) (sb_of se_non) (nomark _)) se_non (se_tup (sa_cons (se_at (hu_of hr) (sb_var 15) (sb_of se_int)) (sa_cons (se_callTy cd_tuple (by rfl) z_tuple v_tuple (sbs_cons (sb_of (se_ofX (sx_lc (own := [("branch", 11)]) rfl (sc_law.nd) (si_seq (se_at (hu_of hr) (sb_var 15) (sb_of se_int))) (blkOk_by (own := [("branch", 11)]) (N := N_law) (sc := defScope s_law) (by decide +kernel)) (fun _ _ _ _ _ => sg_name 11 (vs := [11]) (sc_law.nd) rfl (by first | exact Or.inl rfl | exact Or.inr rfl) (by decide)) (fun _ _ _ _ _ => sts_nil) (fun _ _ _ _ _ => se_op od_addA (sb_of (se_sl (sb_var 11) so_none (so_some se_int))) (sb_of (se_tup (sa_cons (se_index (room65 hr) (sb_var 12) (sb_of (se_at (hu_of hr) (sb_var 11) (sb_of se_int)))) sa_nil))))))) sbs_nil)) sa_nil))))))))
      (sss_one (ss_ret (se_and (se_call c_law_alike hr (by rfl) (sa_cons (se_call c_trimmed hr (by rfl) (sa_cons (se_var 2) sa_nil)) (sa_cons (se_tup (sa_cons (se_at (hu_of hr) (sb_var 2) (sb_of se_int)) (sa_cons (se_callTy cd_tuple (by rfl) z_tuple v_tuple (sbs_cons (sb_var 14) sbs_nil)) sa_nil))) sa_nil))) (se_one (se_cmp (od_eq hr.units) (sb_of (se_call c_trimmed hr (by rfl) (sa_cons (se_call c_trimmed hr (by rfl) (sa_cons (se_var 2) sa_nil)) sa_nil))) (sb_of (se_call c_trimmed hr (by rfl) (sa_cons (se_var 2) sa_nil))) (nomark _))))))))))))))))))
end
end Lw

namespace Bf
def adds (acc ts : List Int) : List Int := ts.foldl (fun acc t => if t ∈ acc then acc else acc ++ [t]) acc
theorem adds_nil (acc : List Int) : adds acc [] = acc := rfl
theorem adds_cons (acc : List Int) (t : Int) (ts : List Int) : adds acc (t :: ts) = adds (if t ∈ acc then acc else acc ++ [t]) ts := rfl
theorem adds_pre : ∀ (ts acc : List Int), acc <+: adds acc ts
  | [], acc => List.prefix_refl acc
  | t :: ts, acc => by
    rw [adds_cons]
    split
    · exact adds_pre ts acc
    · exact (List.prefix_append acc [t]).trans (adds_pre ts _)
theorem adds_nd : ∀ (ts acc : List Int), acc.Nodup → (adds acc ts).Nodup
  | [], acc, h => h
  | t :: ts, acc, h => by
    rw [adds_cons]
    split
    · exact adds_nd ts acc h
    · exact adds_nd ts _ (by grind)
theorem adds_mem (x : Int) : ∀ (ts acc : List Int), x ∈ adds acc ts ↔ x ∈ acc ∨ x ∈ ts
  | [], acc => by simp [adds_nil]
  | t :: ts, acc => by
    rw [adds_cons]
    split <;> rw [adds_mem x ts] <;> grind
def bf (G : Int → List Int) (v : Int) : Nat → List Int
  | 0 => [v]
  | k + 1 => match (bf G v k)[k]? with
    | some u => adds (bf G v k) (G u)
    | none => bf G v k
variable {G : Int → List Int} {v : Int}
theorem bf_s (k : Nat) : bf G v k <+: bf G v (k + 1) := by
  rw [bf]
  split
  · exact adds_pre _ _
  · exact List.prefix_refl _
theorem bf_le {k j : Nat} (h : k ≤ j) : bf G v k <+: bf G v j := by
  induction j with
  | zero => have : k = 0 := by omega
            subst this; exact List.prefix_refl _
  | succ j ih =>
    by_cases e : k = j + 1
    · subst e; exact List.prefix_refl _
    · exact (ih (by omega)).trans (bf_s j)
theorem bf_nd (k : Nat) : (bf G v k).Nodup := by
  induction k with
  | zero => simp [bf]
  | succ k ih => rw [bf]; split; exact adds_nd _ _ ih; exact ih
theorem bf_in (S : Int → Prop) (hv : S v) (hG : ∀ u, S u → ∀ t ∈ G u, S t) (k : Nat) : ∀ x ∈ bf G v k, S x := by
  induction k with
  | zero => simp [bf, hv]
  | succ k ih =>
    intro x hx
    rw [bf] at hx
    split at hx
    · rename_i u hu
      rcases (adds_mem x _ _).mp hx with h | h
      · exact ih x h
      · exact hG u (ih u (List.mem_of_getElem? hu)) x h
    · exact ih x hx
theorem bf_stop {k : Nat} (h : (bf G v k).length ≤ k) : ∀ j, bf G v (k + j) = bf G v k := by
  intro j
  induction j with
  | zero => rfl
  | succ j ih =>
    rw [← Nat.add_assoc, bf, ih]
    rw [List.getElem?_eq_none (by omega)]
theorem pig : ∀ (m : Nat) (l : List Int), l.Nodup → (∀ x ∈ l, 0 ≤ x ∧ x < m) → l.length ≤ m
  | 0, l, _, h => by
    cases l with
    | nil => simp
    | cons a l => have := h a (by simp); omega
  | m + 1, l, hn, h => by
    have e := pig m (l.erase (m : Int)) (hn.erase _) (fun x hx => by
      have h1 := (hn.mem_erase_iff).mp hx
      have h2 := h x h1.2
      have := h1.1
      omega)
    rw [List.length_erase] at e
    split at e <;> omega
theorem bf_len {m : Nat} (hv : 0 ≤ v ∧ v < m) (hG : ∀ u : Int, 0 ≤ u ∧ u < m → ∀ t ∈ G u, 0 ≤ t ∧ t < m) (k : Nat) : (bf G v k).length ≤ m :=
  pig m _ (bf_nd k) (bf_in (fun x => 0 ≤ x ∧ x < m) hv hG k)
def ord (G : Int → List Int) (v : Int) : List Int := bf G v 8
structure Web (m : Nat) (G : Int → List Int) : Prop where
  le : m ≤ 8
  to : ∀ u : Int, 0 ≤ u ∧ u < m → ∀ t ∈ G u, 0 ≤ t ∧ t < m
variable {m : Nat}
theorem ord_end (W : Web m G) (hv : 0 ≤ v ∧ v < m) {k : Nat} (hk : (bf G v k).length ≤ k) : bf G v k = ord G v := by
  have h8 : (bf G v 8).length ≤ 8 := by have := bf_len hv W.to 8; have := W.le; omega
  by_cases h : k ≤ 8
  · have := bf_stop hk (8 - k)
    rw [ord, ← this]; congr 1; omega
  · have := bf_stop h8 (k - 8)
    rw [ord, ← this]; congr 1; omega
theorem ord_self : v ∈ ord G v := (bf_le (Nat.zero_le 8)).subset (by simp [bf])
theorem ord_in (W : Web m G) (hv : 0 ≤ v ∧ v < m) : ∀ x ∈ ord G v, 0 ≤ x ∧ x < m := bf_in (fun x => 0 ≤ x ∧ x < m) hv W.to 8
theorem ord_nd : (ord G v).Nodup := bf_nd 8
theorem ord_len (W : Web m G) (hv : 0 ≤ v ∧ v < m) : (ord G v).length ≤ m := bf_len hv W.to 8
theorem ord_go (W : Web m G) (hv : 0 ≤ v ∧ v < m) {u t : Int} (hu : u ∈ ord G v) (ht : t ∈ G u) : t ∈ ord G v := by
  obtain ⟨i, hi, e⟩ := List.getElem_of_mem hu
  have hl := ord_len W hv
  have h8 := W.le
  have hi2 : i < (bf G v i).length := by
    by_cases c : (bf G v i).length ≤ i
    · rw [ord_end W hv c] at c; omega
    · omega
  have e2 : (bf G v i)[i]? = some u := by
    have p : bf G v i <+: ord G v := bf_le (by omega)
    rw [List.getElem?_eq_getElem hi2, p.getElem hi2, e]
  have : t ∈ bf G v (i + 1) := by
    rw [bf, e2]; exact (adds_mem t _ _).mpr (Or.inr ht)
  exact (bf_le (show i + 1 ≤ 8 by omega)).subset this
theorem ord_sub {S : Int → Prop} (hv : S v) (hG : ∀ u, S u → ∀ t ∈ G u, S t) : ∀ x ∈ ord G v, S x := bf_in S hv hG 8
theorem ord_trans (W : Web m G) (hv : 0 ≤ v ∧ v < m) {u t : Int} (hu : u ∈ ord G v) (ht : t ∈ ord G u) : t ∈ ord G v :=
  ord_sub (S := fun x => x ∈ ord G v) hu (fun a ha b hb => ord_go W hv ha hb) t ht
/-- levels -/
def lv (G : Int → List Int) (O : List Int) : List Int → List Int
  | [] => O
  | u :: us => lv G (adds O (G u)) us
theorem lv_bf : ∀ (us : List Int) (p : Nat), (∀ j, (hj : j < us.length) → (bf G v (p + us.length))[p + j]? = some us[j]) → p + us.length ≤ (bf G v p).length → lv G (bf G v p) us = bf G v (p + us.length)
  | [], p, _, _ => rfl
  | u :: us, p, h, hl => by
    have h0 := h 0 (by simp)
    have hp : p < (bf G v p).length := by simp at hl; omega
    have q : (bf G v p) <+: bf G v (p + (u :: us).length) := bf_le (by omega)
    have e : (bf G v p)[p]? = some u := by
      rw [Nat.add_zero, List.getElem?_eq_getElem (by have := q.length_le; omega)] at h0
      rw [List.getElem?_eq_getElem hp, q.getElem hp]; simpa using h0
    have e1 : adds (bf G v p) (G u) = bf G v (p + 1) := by rw [bf, e]
    rw [lv, e1]
    have el : p + (u :: us).length = (p + 1) + us.length := by simp; omega
    rw [lv_bf us (p + 1), el]
    · intro j hj
      have := h (j + 1) (by simp; omega)
      rw [el] at this
      rw [show p + 1 + j = p + (j + 1) by omega, this]; simp
    · have := (bf_s (G := G) (v := v) p).length_le
      rw [← el]; exact Nat.le_trans hl this
theorem lv_all (p : Nat) : lv G (bf G v p) ((bf G v p).drop p) = bf G v (p + ((bf G v p).drop p).length) := by
  by_cases hp : p ≤ (bf G v p).length
  · refine lv_bf _ p (fun j hj => ?_) (by simp; omega)
    have q : (bf G v p) <+: bf G v (p + ((bf G v p).drop p).length) := bf_le (by omega)
    have h2 : p + j < (bf G v p).length := by simp at hj; omega
    rw [List.getElem?_eq_getElem (by have := q.length_le; omega), ← q.getElem h2]
    simp
  · rw [List.drop_eq_nil_of_le (by omega)]; rfl
theorem adds_map {f : Int → Int} {S : Int → Prop} (hf : ∀ a b, S a → S b → f a = f b → a = b) : ∀ (ts acc : List Int), (∀ x ∈ acc, S x) → (∀ x ∈ ts, S x) → adds (acc.map f) (ts.map f) = (adds acc ts).map f
  | [], acc, _, _ => rfl
  | t :: ts, acc, ha, ht => by
    rw [List.map_cons, adds_cons, adds_cons]
    have e : f t ∈ acc.map f ↔ t ∈ acc := by
      rw [List.mem_map]
      constructor
      · rintro ⟨a, h1, h2⟩
        rw [← hf a t (ha a h1) (ht t (by simp)) h2]; exact h1
      · exact fun h => ⟨t, h, rfl⟩
    by_cases c : t ∈ acc
    · rw [if_pos c, if_pos (e.mpr c)]
      exact adds_map hf ts acc ha fun x hx => ht x (by simp [hx])
    · rw [if_neg c, if_neg (fun h => c (e.mp h))]
      rw [← adds_map hf ts (acc ++ [t]) (by grind) fun x hx => ht x (by simp [hx])]
      simp
theorem bf_map {G' : Int → List Int} {f : Int → Int} {S : Int → Prop} (hf : ∀ a b, S a → S b → f a = f b → a = b) (hv : S v) (hG : ∀ u, S u → ∀ t ∈ G u, S t) (e : ∀ u, S u → G' (f u) = (G u).map f) (k : Nat) : bf G' (f v) k = (bf G v k).map f := by
  induction k with
  | zero => rfl
  | succ k ih =>
    rw [bf, bf, ih, List.getElem?_map]
    cases h : (bf G v k)[k]? with
    | none => rfl
    | some u =>
      have hs := bf_in S hv hG k
      have hu := hs u (List.mem_of_getElem? h)
      show adds _ (G' (f u)) = _
      rw [e u hu]
      exact adds_map hf _ _ hs (hG u hu)
def idx (O : List Int) (t : Int) : Int := (O.idxOf t : Nat)
theorem idx_inj {O : List Int} {a b : Int} (ha : a ∈ O) (hb : b ∈ O) (h : idx O a = idx O b) : a = b := by
  have h1 : O.idxOf a = O.idxOf b := by unfold idx at h; omega
  have ha' := List.idxOf_lt_length_of_mem ha
  have hb' := List.idxOf_lt_length_of_mem hb
  have e1 := List.getElem_idxOf ha'
  have e2 := List.getElem_idxOf hb'
  rw [← e1, ← e2]; congr 1
theorem idx_at {O : List Int} (hn : O.Nodup) {i : Nat} (hi : i < O.length) : idx O O[i] = i := by
  unfold idx
  rw [hn.idxOf_getElem i hi]
theorem idx_lt {O : List Int} {a : Int} (ha : a ∈ O) : 0 ≤ idx O a ∧ idx O a < O.length := by
  have := List.idxOf_lt_length_of_mem ha
  unfold idx; omega
theorem idx_all {O : List Int} (hn : O.Nodup) : O.map (idx O) = (List.range O.length).map fun (i : Nat) => (i : Int) := by
  apply List.ext_getElem (by simp)
  intro i h1 h2
  simp only [List.getElem_map, List.getElem_range]
  exact idx_at hn (by simpa using h1)
end Bf

namespace Lw
open PySem RT
abbrev Br := Int × Int × Int
abbrev Sc := Option (Int × List Br)
def eB (b : Br) : D := .tuple [.int b.1, .int b.2.1, .int b.2.2]
def eS : Sc → D
  | none => .none
  | some (s, bs) => .tuple [.int s, .tuple (bs.map eB)]
def eX (n : Int) (ss : List Sc) : D := .tuple [.int n, .tuple (ss.map eS)]
theorem compL_gen {α : Type} {gt : FGt} {t : FT} {fe : FE} {env : FEn} {x : FRow} (enc : α → D) (p : α → Bool) (g : α → D) : ∀ (l : List α), (∀ a ∈ l, ∃ e, gt (enc a) env = some e ∧ t e x = some (p a, x) ∧ (p a = true → fe e x = some (g a, x))) → compL gt t fe env (l.map enc) x = some ((l.filter p).map g, x)
  | [], _ => rfl
  | a :: l, h => by
    obtain ⟨e, h1, h2, h3⟩ := h a (by simp)
    have ih := compL_gen enc p g l fun b hb => h b (by simp [hb])
    cases hp : p a with
    | true => simp [compL, h1, h2, h3 hp, hp, ih]
    | false => simp [compL, h1, h2, hp, ih]
theorem compL_map {α : Type} {gt : FGt} {t : FT} {fe : FE} {env : FEn} {x : FRow} (enc : α → D) (g : α → D) (l : List α) (h : ∀ a ∈ l, ∃ e, gt (enc a) env = some e ∧ t e x = some (true, x) ∧ fe e x = some (g a, x)) : compL gt t fe env (l.map enc) x = some (l.map g, x) := by
  rw [compL_gen enc (fun _ => true) g l fun a ha => by obtain ⟨e, h1, h2, h3⟩ := h a ha; exact ⟨e, h1, h2, fun _ => h3⟩]
  rw [List.filter_eq_self.mpr (by simp)]
theorem forL_inv {α β : Type} {gt : FGt} {b : FS} {x : FRow} (enc : α → D) (f : β → α → β) (R : β → FEn → Prop) : ∀ (l : List α) (s : β) (env : FEn), (∀ a ∈ l, ∀ s env, R s env → ∃ e e2, gt (enc a) env = some e ∧ b e x = some (.nx e2, x) ∧ R (f s a) e2) → R s env → ∃ e2, forL gt b (l.map enc) env x = some (.nx e2, x) ∧ R (l.foldl f s) e2
  | [], s, env, _, r => ⟨env, rfl, r⟩
  | a :: l, s, env, h, r => by
    obtain ⟨e, e2, h1, h2, h3⟩ := h a (by simp) s env r
    obtain ⟨e3, h4, h5⟩ := forL_inv enc f R l (f s a) e2 (fun b hb => h b (by simp [hb])) h3
    exact ⟨e3, by simp [forL, h1, h2, h4], h5⟩
theorem sSeq_nx {f h : FS} {env e1 : FEn} {x x1 : FRow} (a : f env x = some (.nx e1, x1)) : sSeq f h env x = h e1 x1 := by simp [sSeq, a]
theorem rgD_map (n : Nat) : rgD 0 n = (List.range n).map fun (i : Nat) => D.int (i : Int) := by simp [rgD]
theorem enD_map {α : Type} (enc : α → D) (l : List α) : enD (l.map enc) = l.zipIdx.map fun p => D.tuple [.int (p.2 : Int), enc p.1] := by
  unfold enD
  apply List.ext_getElem (by simp)
  intro i h1 h2
  simp
theorem atI_nat {α : Type} {l : List α} {i : Nat} {z : α} (h : l[i]? = some z) : L2.atI l (i : Int) = some z := by
  have hi : i < l.length := by
    by_cases c : i < l.length
    · exact c
    · rw [List.getElem?_eq_none (by omega)] at h; exact absurd h (by simp)
  unfold L2.atI L2.ixN
  rw [if_pos (by omega), if_pos (by omega)]
  simpa using h
theorem atI_int {α : Type} {l : List α} {i : Int} {z : α} (h0 : 0 ≤ i) (h : l[i.toNat]? = some z) : L2.atI l i = some z := by
  rw [show i = ((i.toNat : Nat) : Int) by omega]; exact atI_nat h
theorem atI_z0 {α : Type} {a : α} {l : List α} : L2.atI (a :: l) 0 = some a := atI_nat (i := 0) rfl
theorem atI_z1 {α : Type} {a b : α} {l : List α} : L2.atI (a :: b :: l) 1 = some b := atI_nat (i := 1) rfl
theorem atI_z2 {α : Type} {a b c : α} {l : List α} : L2.atI (a :: b :: c :: l) 2 = some c := atI_nat (i := 2) rfl
/-- plain data, k levels deep -/
def P0 (d : D) : Prop := d = .none ∨ (∃ i, d = .int i) ∨ ∃ b, d = .bool b
def Pt : Nat → D → Prop
  | 0, d => P0 d
  | k + 1, d => P0 d ∨ ∃ ds, (d = .tuple ds ∨ d = .list ds) ∧ ds.length ≤ 1000 ∧ ∀ e ∈ ds, Pt k e
theorem lay_all : ∀ ds : List D, (∀ e ∈ ds, e.py.canLay0 = true) → PyData.canLayAll0 (pyAll ds) = true
  | [], _ => by simp [pyAll, PyData.canLayAll0]
  | d :: ds, h => by
    simp only [pyAll, PyData.canLayAll0, h d (by simp), lay_all ds fun e he => h e (by simp [he])]; rfl
theorem dep_all (k : Nat) : ∀ ds : List D, (∀ e ∈ ds, e.py.depth ≤ k) → PyData.depthAll (pyAll ds) ≤ k
  | [], _ => by simp [pyAll, PyData.depthAll]
  | d :: ds, h => by
    simp only [pyAll, PyData.depthAll]
    have := h d (by simp)
    have := dep_all k ds fun e he => h e (by simp [he])
    omega
theorem eq_all : ∀ ds : List D, (∀ e ∈ ds, PyData.eqv e.py e.py = true) → PyData.eqvAll (pyAll ds) (pyAll ds) = true
  | [], _ => by simp [pyAll, PyData.eqvAll]
  | d :: ds, h => by
    simp only [pyAll, PyData.eqvAll, h d (by simp), eq_all ds fun e he => h e (by simp [he])]; rfl
theorem P0.ok {d : D} (h : P0 d) : d.py.canLay0 = true ∧ d.py.depth = 0 ∧ PyData.eqv d.py d.py = true := by
  rcases h with rfl | ⟨i, rfl⟩ | ⟨b, rfl⟩ <;> simp [D.py, PyData.canLay0, PyData.depth, PyData.eqv]
theorem Pt.ok : ∀ {k : Nat} {d : D}, Pt k d → d.py.canLay0 = true ∧ d.py.depth ≤ k ∧ PyData.eqv d.py d.py = true
  | 0, d, h => by have := P0.ok h; exact ⟨this.1, by omega, this.2.2⟩
  | k + 1, d, h => by
    rcases h with h | ⟨ds, e, _, h⟩
    · have := P0.ok h; exact ⟨this.1, by omega, this.2.2⟩
    · have h1 := lay_all ds fun e he => (Pt.ok (h e he)).1
      have h2 := dep_all k ds fun e he => (Pt.ok (h e he)).2.1
      have h3 := eq_all ds fun e he => (Pt.ok (h e he)).2.2
      rcases e with rfl | rfl <;> simp [D.py, PyData.canLay0, PyData.depth, PyData.eqv, h1, h2, h3]
theorem Pt.sh {k : Nat} {d : D} (h : Pt k d) (hk : k ≤ 64) : shapedD d = true := by
  have := h.ok
  simp [shapedD, SeqAt.shaped, this.1, Nat.le_trans this.2.1 hk]
theorem Pt.rf {k : Nat} {d : D} (h : Pt k d) (hk : k ≤ 64) : gEq d d = some (.bool true) := by
  simp [gEq, h.sh hk, eqD, h.ok.2.2]
theorem Pt.nrf {k : Nat} {d : D} (h : Pt k d) (hk : k ≤ 64) : gNe d d = some (.bool false) := by
  simp [gNe, h.sh hk, eqD, h.ok.2.2]
theorem Pt.up : ∀ {k : Nat} {d : D}, Pt k d → Pt (k + 1) d
  | 0, d, h => Or.inl h
  | k + 1, d, h => by
    rcases h with h | ⟨ds, e, l, h⟩
    · exact Or.inl h
    · exact Or.inr ⟨ds, e, l, fun z hz => Pt.up (h z hz)⟩
theorem Pt.le {k j : Nat} {d : D} (h : Pt k d) (hj : k ≤ j) : Pt j d := by
  induction j with
  | zero => have : k = 0 := by omega
            subst this; exact h
  | succ j ih =>
    by_cases c : k = j + 1
    · subst c; exact h
    · exact (ih (by omega)).up
theorem sh_int (i : Int) : shapedD (.int i) = true := by simp [shapedD, SeqAt.shaped, D.py, PyData.canLay0, PyData.depth]
theorem sh_bool (i : Bool) : shapedD (.bool i) = true := by simp [shapedD, SeqAt.shaped, D.py, PyData.canLay0, PyData.depth]
theorem sh_ints (l : List Int) : shapedD (.list (l.map .int)) = true := by
  have h1 := lay_all (l.map D.int) (by simp [D.py, PyData.canLay0])
  have h2 := dep_all 0 (l.map D.int) (by simp [D.py, PyData.depth])
  simp only [shapedD, SeqAt.shaped, D.py, PyData.canLay0, PyData.depth, h1, Bool.true_and, decide_eq_true_eq]
  omega
theorem ne_int (i j : Int) : gNe (.int i) (.int j) = some (.bool (!decide (i = j))) := by
  simp [gNe, sh_int, eqD, D.py, PyData.eqv]
  by_cases h : i = j <;> simp [h]
theorem eq_int (i j : Int) : gEq (.int i) (.int j) = some (.bool (decide (i = j))) := by
  simp [gEq, sh_int, eqD, D.py, PyData.eqv]
  by_cases h : i = j <;> simp [h]
theorem ne_bool (i j : Bool) : gNe (.bool i) (.bool j) = some (.bool (i != j)) := by
  cases i <;> cases j <;> simp [gNe, sh_bool, eqD, D.py, PyData.eqv]
theorem eq_bool (i j : Bool) : gEq (.bool i) (.bool j) = some (.bool (i == j)) := by
  cases i <;> cases j <;> simp [gEq, sh_bool, eqD, D.py, PyData.eqv]
theorem ne_nil (l : List Int) : gNe (.list (l.map .int)) (.list []) = some (.bool (!l.isEmpty)) := by
  have h := sh_ints l
  have h0 := sh_ints []
  rw [List.map_nil] at h0
  simp only [gNe, h, h0, Bool.true_and, if_true]
  cases l <;> simp [eqD, D.py, pyAll, PyData.eqv, PyData.eqvAll]
theorem any_int (t : Int) (l : List Int) : ((l.map D.int).any fun z => eqD z (.int t)) = decide (t ∈ l) := by
  induction l with
  | nil => rfl
  | cons a l ih =>
    rw [List.map_cons, List.any_cons, ih]
    simp only [eqD, D.py, PyData.eqv, List.mem_cons]
    by_cases h : a = t
    · simp [h]
    · have : ¬ t = a := fun h2 => h h2.symm
      simp [h, this]
theorem in_ints (t : Int) (l : List Int) : gIn (.int t) (.list (l.map .int)) = some (.bool (decide (t ∈ l))) := by
  have h := sh_ints l
  simp only [gIn, h, sh_int, any_int, Bool.and_self, if_true]
theorem notin_ints (t : Int) (l : List Int) : gNotIn (.int t) (.list (l.map .int)) = some (.bool (!decide (t ∈ l))) := by
  have h := sh_ints l
  simp only [gNotIn, h, sh_int, any_int, Bool.and_self, if_true]
/-- dicts that hold ints as a set -/
def dS (l : List Int) : List (D × D) := l.map fun i => (D.int i, D.bool true)
theorem dS_any (t : Int) (l : List Int) : ((dS l).any fun p => decide (dKey p.1 = some (.inl t))) = decide (t ∈ l) := by
  induction l with
  | nil => rfl
  | cons a l ih =>
    have : dS (a :: l) = (D.int a, D.bool true) :: dS l := rfl
    rw [this, List.any_cons, ih]
    simp only [dKey, List.mem_cons, Option.some.injEq, Sum.inl.injEq]
    by_cases h : a = t
    · simp [h]
    · have : ¬ t = a := fun h2 => h h2.symm
      simp [h, this]
theorem dS_val (t : Int) (l : List Int) : (valD dKey (dS l) (.inl t)).isSome = decide (t ∈ l) := by
  rw [← dS_any]
  simp only [valD, Option.isSome_map, List.isSome_find?]
theorem dS_notin (t : Int) (l : List Int) : gNotInA (.int t) (.dict (dS l)) = some (.bool (!decide (t ∈ l))) := by
  simp only [gNotInA, gDNotIn, gDGet, dKey, dS_val]
theorem dS_put (t : Int) (l : List Int) : putD dKey (dS l) (.int t) (.inl t) (.bool true) = dS (Bf.adds l [t]) := by
  unfold putD
  rw [dS_any, Bf.adds_cons, Bf.adds_nil]
  by_cases h : t ∈ l
  · rw [if_pos (by simpa using h), if_pos h]
    unfold dS
    rw [List.map_map]
    refine List.map_congr_left fun i _ => ?_
    simp only [Function.comp]
    split <;> rfl
  · rw [if_neg (by simpa using h), if_neg h]
    simp [dS]
theorem alike_base {k : Nat} {d : D} (h0 : P0 d) : m_law_alike (k + 1) [d, d] = some (.bool true) := by
  have e := Pt.rf (k := 0) h0 (by omega)
  rcases h0 with rfl | ⟨i, rfl⟩ | ⟨b, rfl⟩ <;> simp [m_law_alike, b_law_alike, fVar, fBor, fC, aNil, aCons, fTup, fLst, fBin, fTst, fChain, fAnd, fOr, fNot, fNeg, tAndF, tOrF, tNotF, fTru, fIf, fSl, oNone, oSome, fCall, fCallR, fRow, fRowLen, fRowAt, sSet, sPars, setsE, xVal, xLst, xNew, xDict1, sRet, sNo, sNil, sSeq, sIf, eFrz, sFrz, sUnp, gtName, gtNil, gtCons, gtTup, fSeq, sAug, sDrop, sApp, sExt, sDPut, fOfX, sRow, xsNil, xsCons, fIsi, fIsi2, okRg, fRg1, fRg2, fEn, mkF, mkR, startE, tYesF, OwD.d, sFor, xLc, xDc, wipeE, truD, isNoneD, gIsN, gNotN, isiD, maxLen, gI, gOr, gAdd, gMul, gCatT, gCatL, gLt, gLen, gInt, gTupOf, gListOf, gAt, pMod, pDiv, pMul, pPow, e, eq_bool]
theorem lc_eq {f : FA} {gt : FGt} {t : FT} {fe : FE} {vs : List Nat} {env : FEn} {x : FRow} {ds rs : List D} (h1 : f env x = some (ds, x)) (h2 : compL gt t fe (wipeE env vs) ds x = some (rs, x)) (h3 : rs.length < maxLen) : fOfX (xLc f gt t fe vs) env x = some (.list rs, x) := by
  simp [fOfX, xLc, h1, h2, h3, OwD.d]
theorem law_alike_s (k : Nat) (ds : List D) : m_law_alike (k + 1) ds = mkF 3 2 (b_law_alike (m_law_alike k)) ds := by
  rfl
theorem mkF_rt {n k : Nat} {b : FS} {ds : List D} {d : D} {x : FRow} (hk : ds.length = k) (h : b (startE n ds) row0 = some (.rt d, x)) : mkF n k b ds = some d := by
  simp [mkF, hk, h]
theorem rg_ok {n : Nat} (h : n ≤ 1000) : okRg (n : Int) = true := by
  simp only [okRg, decide_eq_true_eq]; omega
theorem alike_step {rec : List D → Option D} {d : D} {ds : List D} (e : d = .tuple ds ∨ d = .list ds) (hl : ds.length ≤ 1000) (h : compL (gtName 2) (tNotF (fTru (fCall rec (aCons (fBin gAt (fBor 0) (fBor 2)) (aCons (fBin gAt (fBor 1) (fBor 2)) aNil))))) (fVar 2) [.va d, .va d, .no] (rgD 0 ds.length) row0 = some ([], row0)) : mkF 3 2 (b_law_alike rec) [d, d] = some (.bool true) := by
  have e0 : gEq (.list []) (.list []) = some (.bool true) := Pt.rf (k := 1) (Or.inr ⟨[], Or.inr rfl, by simp, by simp⟩) (by omega)
  have hk := rg_ok hl
  have h3 : fOfX (xLc (fRg1 (fCall gLen (aCons (fBor 1) aNil))) (gtName 2) (tNotF (fTru (fCall rec (aCons (fBin gAt (fBor 0) (fBor 2)) (aCons (fBin gAt (fBor 1) (fBor 2)) aNil))))) (fVar 2) [2]) [.va d, .va d, .no] row0 = some (.list [], row0) := by
    refine lc_eq (ds := rgD 0 ds.length) ?_ ?_ (by simp [maxLen])
    · rcases e with rfl | rfl <;> simp [fRg1, fCall, fBor, aCons, aNil, gLen, hk]
    · exact h
  have hl0 : fLst aNil [.va d, .va d, .no] row0 = some (.list [], row0) := by simp [fLst, aNil]
  have t1 : fTru (fIsi2 .tuple .list (fBor 1)) [.va d, .va d, .no] row0 = some (true, row0) := by
    rcases e with rfl | rfl <;> simp [fTru, fIsi2, fBor, isiD, truD]
  have t0 : fTru (fIsi2 .tuple .list (fBor 0)) [.va d, .va d, .no] row0 = some (true, row0) := by
    rcases e with rfl | rfl <;> simp [fTru, fIsi2, fBor, isiD, truD]
  have t2 : fTst (fBin gNe (fIsi .list (fBor 0)) (fIsi .list (fBor 1))) [.va d, .va d, .no] row0 = some (false, row0) := by
    rcases e with rfl | rfl <;> simp [fTst, fBin, fIsi, fBor, isiD, ne_bool]
  have t3 : fTst (fBin gNe (fCall gLen (aCons (fBor 0) aNil)) (fCall gLen (aCons (fBor 1) aNil))) [.va d, .va d, .no] row0 = some (false, row0) := by
    rcases e with rfl | rfl <;> simp [fTst, fBin, fCall, aCons, aNil, fBor, gLen, ne_int]
  have t4 : b_law_alike rec [.va d, .va d, .no] row0 = some (.rt (.bool true), row0) := by
    simp only [b_law_alike, sSeq, sIf, tOrF, tNotF, t0, t1, t2, t3, sNil, sRet, fBin, h3, hl0, e0, Bool.not_true]
  exact mkF_rt rfl t4
theorem alike_ok (k : Nat) : ∀ {d : D}, Pt k d → m_law_alike (k + 1) [d, d] = some (.bool true) := by
  induction k with
  | zero => exact fun h => alike_base h
  | succ k ih =>
    intro d h
    rcases h with h | ⟨ds, e, hl, h⟩
    · exact alike_base h
    · have hr : ∀ x : FRow, ∀ d' : D, (d' = .tuple ds ∨ d' = .list ds) → compL (gtName 2) (tNotF (fTru (fCall (m_law_alike (k + 1)) (aCons (fBin gAt (fBor 0) (fBor 2)) (aCons (fBin gAt (fBor 1) (fBor 2)) aNil))))) (fVar 2) [.va d', .va d', .no] (rgD 0 ds.length) x = some ([], x) := by
        intro x d' hd'
        rw [rgD_map]
        rw [compL_gen (fun (i : Nat) => D.int (i : Int)) (fun _ => false) (fun _ => .none) (List.range ds.length)]
        · simp
        · intro i hi
          have hi' : i < ds.length := by simpa using hi
          have hz : ds[i]? = some ds[i] := List.getElem?_eq_getElem hi'
          have ha := atI_nat hz
          have hm := ih (h ds[i] (List.getElem_mem hi'))
          refine ⟨_, rfl, ?_, by simp⟩
          rcases hd' with rfl | rfl <;> simp [fVar, fBor, fC, aNil, aCons, fTup, fLst, fBin, fTst, fChain, fAnd, fOr, fNot, fNeg, tAndF, tOrF, tNotF, fTru, fIf, fSl, oNone, oSome, fCall, fCallR, fRow, fRowLen, fRowAt, sSet, sPars, setsE, xVal, xLst, xNew, xDict1, sRet, sNo, sNil, sSeq, sIf, eFrz, sFrz, sUnp, gtName, gtNil, gtCons, gtTup, fSeq, sAug, sDrop, sApp, sExt, sDPut, fOfX, sRow, xsNil, xsCons, fIsi, fIsi2, okRg, fRg1, fRg2, fEn, mkF, mkR, startE, tYesF, OwD.d, sFor, xLc, xDc, wipeE, truD, isNoneD, gIsN, gNotN, isiD, maxLen, gI, gOr, gAdd, gMul, gCatT, gCatL, gLt, gLen, gInt, gTupOf, gListOf, gAt, pMod, pDiv, pMul, pPow, ha, hm]
      rw [law_alike_s]
      exact alike_step e hl (hr row0 d e)
theorem is_number_eq (i a b : Int) : m_is_number [.int i, .int a, .int b] = some (.bool (decide (a ≤ i) && decide (i ≤ b))) := by
  by_cases h1 : a ≤ i <;> by_cases h2 : i ≤ b <;> simp [m_is_number, b_is_number, fVar, fBor, fC, aNil, aCons, fTup, fLst, fBin, fTst, fChain, fAnd, fOr, fNot, fNeg, tAndF, tOrF, tNotF, fTru, fIf, fSl, oNone, oSome, fCall, fCallR, fRow, fRowLen, fRowAt, sSet, sPars, setsE, xVal, xLst, xNew, xDict1, sRet, sNo, sNil, sSeq, sIf, eFrz, sFrz, sUnp, gtName, gtNil, gtCons, gtTup, fSeq, sAug, sDrop, sApp, sExt, sDPut, fOfX, sRow, xsNil, xsCons, fIsi, fIsi2, okRg, fRg1, fRg2, fEn, mkF, mkR, startE, tYesF, OwD.d, sFor, xLc, xDc, wipeE, truD, isNoneD, gIsN, gNotN, isiD, maxLen, gI, gOr, gAdd, gMul, gCatT, gCatL, gLt, gLen, gInt, gTupOf, gListOf, gAt, pMod, pDiv, pMul, pPow, h1, h2]
theorem has_items_eq (ds : List D) (a b : Int) : m_has_items [.tuple ds, .int a, .int b] = some (.bool (decide (a ≤ ds.length) && decide ((ds.length : Int) ≤ b))) := by
  by_cases h1 : a ≤ ds.length <;> by_cases h2 : (ds.length : Int) ≤ b <;> simp [m_has_items, b_has_items, fVar, fBor, fC, aNil, aCons, fTup, fLst, fBin, fTst, fChain, fAnd, fOr, fNot, fNeg, tAndF, tOrF, tNotF, fTru, fIf, fSl, oNone, oSome, fCall, fCallR, fRow, fRowLen, fRowAt, sSet, sPars, setsE, xVal, xLst, xNew, xDict1, sRet, sNo, sNil, sSeq, sIf, eFrz, sFrz, sUnp, gtName, gtNil, gtCons, gtTup, fSeq, sAug, sDrop, sApp, sExt, sDPut, fOfX, sRow, xsNil, xsCons, fIsi, fIsi2, okRg, fRg1, fRg2, fEn, mkF, mkR, startE, tYesF, OwD.d, sFor, xLc, xDc, wipeE, truD, isNoneD, gIsN, gNotN, isiD, maxLen, gI, gOr, gAdd, gMul, gCatT, gCatL, gLt, gLen, gInt, gTupOf, gListOf, gAt, pMod, pDiv, pMul, pPow, h1, h2]
theorem is_talk_ok {s h w n : Int} (hs : 0 ≤ s ∧ s < n) (hh : 0 ≤ h ∧ h < n) (hn : h ≠ s) (hw : 0 ≤ w ∧ w ≤ 5) : m_is_talk [.tuple [.int s, .int h, .int w], .int n] = some (.bool true) := by
  have e1 : s ≤ n - 1 := by omega
  have e2 : h ≤ n - 1 := by omega
  have e3 : gNe (.int s) (.int h) = some (.bool true) := by
    rw [ne_int]; simp; omega
  simp [m_is_talk, b_is_talk, fVar, fBor, fC, aNil, aCons, fTup, fLst, fBin, fTst, fChain, fAnd, fOr, fNot, fNeg, tAndF, tOrF, tNotF, fTru, fIf, fSl, oNone, oSome, fCall, fCallR, fRow, fRowLen, fRowAt, sSet, sPars, setsE, xVal, xLst, xNew, xDict1, sRet, sNo, sNil, sSeq, sIf, eFrz, sFrz, sUnp, gtName, gtNil, gtCons, gtTup, fSeq, sAug, sDrop, sApp, sExt, sDPut, fOfX, sRow, xsNil, xsCons, fIsi, fIsi2, okRg, fRg1, fRg2, fEn, mkF, mkR, startE, tYesF, OwD.d, sFor, xLc, xDc, wipeE, truD, isNoneD, gIsN, gNotN, isiD, maxLen, gI, gOr, gAdd, gMul, gCatT, gCatL, gLt, gLen, gInt, gTupOf, gListOf, gAt, pMod, pDiv, pMul, pPow, has_items_eq, is_number_eq, e1, e2, hs.1, hh.1, hw.1, hw.2, e3]
structure OkB (n : Int) (m : Nat) (s : Int) (b : Br) : Prop where
  h : 0 ≤ b.1 ∧ b.1 < n
  ne : b.1 ≠ s
  w : 0 ≤ b.2.1 ∧ b.2.1 ≤ 5
  t : 0 ≤ b.2.2 ∧ b.2.2 < m
def Two (bs : List Br) : Prop := (∃ b, bs = [b]) ∨ ∃ b c, bs = [b, c] ∧ HT.lexLt [b.1, b.2.1] [c.1, c.2.1] = true
structure Ok (n : Int) (ss : List Sc) : Prop where
  n2 : 2 ≤ n ∧ n ≤ 4
  m : 1 ≤ ss.length ∧ ss.length ≤ 7
  sc : ∀ s bs, some (s, bs) ∈ ss → (0 ≤ s ∧ s < n) ∧ Two bs ∧ ∀ b ∈ bs, OkB n ss.length s b
theorem is_branch_ok {n : Int} {m : Nat} {s : Int} {b : Br} (hs : 0 ≤ s ∧ s < n) (k : OkB n m s b) : m_is_branch [eB b, .int s, .int n, .int m] = some (.bool true) := by
  have e1 : b.2.2 ≤ (m : Int) - 1 := by have := k.t; omega
  simp [m_is_branch, b_is_branch, eB, fVar, fBor, fC, aNil, aCons, fTup, fLst, fBin, fTst, fChain, fAnd, fOr, fNot, fNeg, tAndF, tOrF, tNotF, fTru, fIf, fSl, oNone, oSome, fCall, fCallR, fRow, fRowLen, fRowAt, sSet, sPars, setsE, xVal, xLst, xNew, xDict1, sRet, sNo, sNil, sSeq, sIf, eFrz, sFrz, sUnp, gtName, gtNil, gtCons, gtTup, fSeq, sAug, sDrop, sApp, sExt, sDPut, fOfX, sRow, xsNil, xsCons, fIsi, fIsi2, okRg, fRg1, fRg2, fEn, mkF, mkR, startE, tYesF, OwD.d, sFor, xLc, xDc, wipeE, truD, isNoneD, gIsN, gNotN, isiD, maxLen, gI, gOr, gAdd, gMul, gCatT, gCatL, gLt, gLen, gInt, gTupOf, gListOf, gAt, pMod, pDiv, pMul, pPow, has_items_eq, is_number_eq, is_talk_ok hs k.h k.ne k.w, k.t.1, e1]
end Lw

namespace Lw
open PySem RT
theorem mkF_nx {n k : Nat} {b : FS} {ds : List D} {e : FEn} {x : FRow} (hk : ds.length = k) (h : b (startE n ds) row0 = some (.nx e, x)) : mkF n k b ds = some .none := by
  simp [mkF, hk, h]
theorem intsD_map : ∀ l : List Int, intsD (l.map .int) = some l
  | [] => rfl
  | a :: l => by simp [intsD, intsD_map l]
theorem bools_map {α : Type} (f : α → Bool) : ∀ l : List α, bools (l.map fun a => .bool (f a)) = some (l.map f)
  | [] => rfl
  | a :: l => by simp [bools, bools_map f l]
theorem rising1 (b : Br) : m_is_rising [.list [.tuple [.int b.1, .int b.2.1]]] = some (.bool true) := by
  refine mkF_rt (x := row0) rfl ?_
  simp [b_is_rising, fBin, fBor, fVar, fC, fCall, fOfX, xLc, fRg1, okRg, rgD, compL, aCons, aNil, sRet, gLen, gI, gAll, bools, startE, OwD.d, maxLen]
theorem rising2 (b c : Br) (h : HT.lexLt [b.1, b.2.1] [c.1, c.2.1] = true) : m_is_rising [.list [.tuple [.int b.1, .int b.2.1], .tuple [.int c.1, .int c.2.1]]] = some (.bool true) := by
  refine mkF_rt (x := row0) rfl ?_
  simp [b_is_rising, fBin, fBor, fVar, fC, fCall, fOfX, xLc, fRg1, okRg, rgD, compL, aCons, aNil, sRet, gLen, gI, gAll, bools, startE, OwD.d, maxLen, gtName, tYesF, gAt, gLt, gOr, gLtT, intsD, atI_z0, atI_z1, gAdd, wipeE, h]
theorem cut2 (b : Br) : cutL [D.int b.1, .int b.2.1, .int b.2.2] none (some 2) = [.int b.1, .int b.2.1] := by
  simp [cutL, HT.sIx]
theorem is_scene_none (n m : Int) : m_is_scene [.none, .int n, .int m] = some (.bool true) := by
  refine mkF_rt (x := row0) rfl ?_
  simp [b_is_scene, sSeq, sIf, fTst, fBin, fBor, fC, gIsN, isNoneD, sRet, startE]
theorem is_scene_ok {n : Int} {m : Nat} {s : Int} {bs : List Br} (hs : 0 ≤ s ∧ s < n) (h2 : Two bs) (hb : ∀ b ∈ bs, OkB n m s b) : m_is_scene [eS (some (s, bs)), .int n, .int m] = some (.bool true) := by
  refine mkF_rt (x := row0) rfl ?_
  have e0 := has_items_eq [.int s, .tuple (bs.map eB)] 2 2
  have c1 : fOfX (xLc (fSeq (fVar 4)) (gtName 5) tYesF (fCall m_is_branch (aCons (fVar 5) (aCons (fVar 3) (aCons (fVar 1) (aCons (fVar 2) aNil))))) [5]) [.va (eS (some (s, bs))), .va (.int n), .va (.int m), .va (.int s), .va (.tuple (bs.map eB)), .no] row0 = some (.list (bs.map fun _ => .bool true), row0) := by
    refine lc_eq (ds := bs.map eB) (by simp [fSeq, fVar]) (compL_map eB _ bs fun b hb' => ⟨_, rfl, rfl, ?_⟩) ?_
    · simp [fCall, aCons, aNil, fVar, wipeE, gtName, is_branch_ok hs (hb b hb')]
    · rcases h2 with ⟨b, rfl⟩ | ⟨b, c, rfl, _⟩ <;> simp [maxLen]
  have c2 : ∀ z, fOfX (xLc (fSeq (fVar 4)) (gtName 5) tYesF (fSl (fBor 5) oNone (oSome (fC (.int 2)))) [5]) [.va (eS (some (s, bs))), .va (.int n), .va (.int m), .va (.int s), .va (.tuple (bs.map eB)), z] row0 = some (.list (bs.map fun b => .tuple [.int b.1, .int b.2.1]), row0) := by
    intro z
    refine lc_eq (ds := bs.map eB) (by simp [fSeq, fVar]) (compL_map eB _ bs fun b hb' => ⟨_, rfl, rfl, ?_⟩) ?_
    · simp [fSl, fBor, oNone, oSome, fC, wipeE, gtName, eB, gSl, cut2]
    · rcases h2 with ⟨b, rfl⟩ | ⟨b, c, rfl, _⟩ <;> simp [maxLen]
  have c3 : m_is_rising [.list (bs.map fun b => .tuple [.int b.1, .int b.2.1])] = some (.bool true) := by
    rcases h2 with ⟨b, rfl⟩ | ⟨b, c, rfl, hl⟩
    · exact rising1 b
    · exact rising2 b c hl
  have c4 : gAll [.list (bs.map fun _ => .bool true)] = some (.bool true) := by
    simp only [gAll, bools_map (fun _ => true)]; simp
  have c5 : (bs.length : Int) ≠ 0 := by rcases h2 with ⟨b, rfl⟩ | ⟨b, c, rfl, _⟩ <;> simp
  have c6 : fTst (fBin gIsN (fBor 0) (fC .none)) [.va (eS (some (s, bs))), .va (.int n), .va (.int m), .no, .no, .no] row0 = some (false, row0) := by
    simp [fTst, fBin, fBor, fC, gIsN, isNoneD, eS]
  have c7 : tNotF (fTru (fCall m_has_items (aCons (fVar 0) (aCons (fC (.int 2)) (aCons (fC (.int 2)) aNil))))) [.va (eS (some (s, bs))), .va (.int n), .va (.int m), .no, .no, .no] row0 = some (false, row0) := by
    simp [tNotF, fTru, fCall, aCons, aNil, fVar, fC, eS, e0, truD]
  have c8 : sUnp (fVar 0) (gtTup 2 (gtCons (gtName 3) (gtCons (gtName 4) gtNil))) [.va (eS (some (s, bs))), .va (.int n), .va (.int m), .no, .no, .no] row0 = some (.nx [.va (eS (some (s, bs))), .va (.int n), .va (.int m), .va (.int s), .va (.tuple (bs.map eB)), .no], row0) := by
    simp [sUnp, fVar, gtTup, gtCons, gtName, gtNil, eS]
  have c9 : tOrF (tNotF (fTru (fIsi .tuple (fBor 4)))) (fTst (fBin gEq (fCall gLen (aCons (fBor 4) aNil)) (fC (.int 0)))) [.va (eS (some (s, bs))), .va (.int n), .va (.int m), .va (.int s), .va (.tuple (bs.map eB)), .no] row0 = some (false, row0) := by
    simp [tOrF, tNotF, fTru, fIsi, fBor, isiD, truD, fTst, fBin, fCall, aCons, aNil, gLen, fC, eq_int, c5]
    intro h; simp [h] at c5
  show b_is_scene [.va (eS (some (s, bs))), .va (.int n), .va (.int m), .no, .no, .no] row0 = _
  simp only [b_is_scene, sSeq, sIf, c6, c7, c8, c9, sNil]
  simp only [fCall, aCons, aNil, c1, c4, tNotF, fTru, truD, Bool.not_true, sRet, c2, c3]
theorem sc_ok {n : Int} {ss : List Sc} (k : Ok n ss) {sc : Sc} (h : sc ∈ ss) : m_is_scene [eS sc, .int n, .int ss.length] = some (.bool true) := by
  cases sc with
  | none => exact is_scene_none n ss.length
  | some p => obtain ⟨h1, h2, h3⟩ := k.sc p.1 p.2 h; exact is_scene_ok h1 h2 h3
theorem form_ok {n : Int} {ss : List Sc} (k : Ok n ss) : m_has_script_form [eX n ss] = some (.bool true) := by
  refine mkF_rt (x := row0) rfl ?_
  have e0 := has_items_eq [.int n, .tuple (ss.map eS)] 2 2
  have e1 := has_items_eq (ss.map eS) 1 8
  have h1 : (1 : Int) ≤ ss.length ∧ (ss.length : Int) ≤ 8 := by have := k.m; omega
  rw [List.length_map] at e1
  have h2 := k.n2
  have h3 := is_number_eq n 2 4
  simp [b_has_script_form, sSeq, sIf, tNotF, fTru, fCall, aCons, aNil, fVar, fC, eX, e0, truD, sNil, sUnp, gtTup, gtCons, gtName, gtNil, sRet, fAnd, e1, h3, startE, h1, h2]
theorem check_ok {n : Int} {ss : List Sc} (k : Ok n ss) : ∃ d, m_check_script [eX n ss] = some d := by
  have hf := form_ok k
  obtain ⟨e2, h4, _⟩ := forL_inv (x := row0) (gt := gtTup 2 (gtCons (gtName 3) (gtCons (gtName 4) gtNil))) (b := sIf (tNotF (fTru (fCall m_is_scene (aCons (fVar 4) (aCons (fVar 1) (aCons (fCall gLen (aCons (fBor 2) aNil)) aNil)))))) sNo sNil) (fun p : Sc × Nat => D.tuple [.int (p.2 : Int), eS p.1]) (fun (_ : Unit) _ => ()) (fun _ env => ∃ z u, env = [.va (eX n ss), .va (.int n), .va (.tuple (ss.map eS)), z, u]) ss.zipIdx () [.va (eX n ss), .va (.int n), .va (.tuple (ss.map eS)), .no, .no] (by
    rintro ⟨sc, i⟩ hp _ env ⟨z, u, rfl⟩
    have hm : sc ∈ ss := by
      have := List.mem_zipIdx hp; rw [this.2.2]; exact List.getElem_mem _
    refine ⟨_, [.va (eX n ss), .va (.int n), .va (.tuple (ss.map eS)), .va (.int i), .va (eS sc)], rfl, ?_, _, _, rfl⟩
    simp [sIf, tNotF, fTru, fCall, aCons, aNil, fVar, fBor, gLen, sc_ok k hm, truD, sNil]) ⟨_, _, rfl⟩
  refine ⟨_, mkF_nx (e := e2) (x := row0) rfl ?_⟩
  have c1 : tNotF (fTru (fCall m_has_script_form (aCons (fVar 0) aNil))) [.va (eX n ss), .no, .no, .no, .no] row0 = some (false, row0) := by
    simp [tNotF, fTru, fCall, aCons, aNil, fVar, hf, truD]
  have c2 : sUnp (fVar 0) (gtTup 2 (gtCons (gtName 1) (gtCons (gtName 2) gtNil))) [.va (eX n ss), .no, .no, .no, .no] row0 = some (.nx [.va (eX n ss), .va (.int n), .va (.tuple (ss.map eS)), .no, .no], row0) := by
    simp [sUnp, fVar, gtTup, gtCons, gtName, gtNil, eX]
  have c3 : fEn (fVar 2) [.va (eX n ss), .va (.int n), .va (.tuple (ss.map eS)), .no, .no] row0 = some (ss.zipIdx.map (fun p : Sc × Nat => D.tuple [.int (p.2 : Int), eS p.1]), row0) := by
    simp only [fEn, fVar]; rw [← enD_map]; rfl
  show b_check_script [.va (eX n ss), .no, .no, .no, .no] row0 = _
  simp only [b_check_script, sSeq, sIf, c1, sNil, c2, sFor, c3]
  exact h4
end Lw

namespace Lw
open PySem RT
theorem whL_inv {t : FT} {b : FS} {x : FRow} (R : Nat → FEn → Prop) (stop : Nat) (h : ∀ k env, R k env → k < stop → t env x = some (true, x) ∧ ∃ e2, b env x = some (.nx e2, x) ∧ R (k + 1) e2) (he : ∀ env, R stop env → t env x = some (false, x)) : ∀ (fuel k : Nat) (env : FEn), R k env → k ≤ stop → stop - k < fuel → ∃ e2, whL t b fuel env x = some (.nx e2, x) ∧ R stop e2
  | 0, _, _, _, _, hf => by omega
  | fuel + 1, k, env, r, hk, hf => by
    by_cases c : k = stop
    · subst c
      exact ⟨env, by simp [whL, he env r], r⟩
    · obtain ⟨h1, e2, h2, h3⟩ := h k env r (by omega)
      obtain ⟨e3, h4, h5⟩ := whL_inv R stop h he fuel (k + 1) e2 h3 (by omega) (by omega)
      exact ⟨e3, by simp [whL, h1, h2, h4], h5⟩
theorem first_ex {P : Nat → Prop} : ∀ N, P N → ∃ k, k ≤ N ∧ P k ∧ ∀ j, j < k → ¬ P j
  | 0, h => ⟨0, by omega, h, fun j hj => by omega⟩
  | N + 1, h => by
    by_cases c : ∃ j, j ≤ N ∧ P j
    · obtain ⟨j, hj, pj⟩ := c
      have : ∀ M, M ≤ N → P M → ∃ k, k ≤ M ∧ P k ∧ ∀ j, j < k → ¬ P j := by
        intro M
        induction M using Nat.strongRecOn with
        | ind M ih =>
          intro hM pM
          by_cases d : ∃ i, i < M ∧ P i
          · obtain ⟨i, hi, pi⟩ := d
            obtain ⟨k, k1, k2, k3⟩ := ih i hi (by omega) pi
            exact ⟨k, by omega, k2, k3⟩
          · exact ⟨M, by omega, pM, fun i hi pi => d ⟨i, hi, pi⟩⟩
      obtain ⟨k, k1, k2, k3⟩ := this j hj pj
      exact ⟨k, by omega, k2, k3⟩
    · exact ⟨N + 1, by omega, h, fun j hj pj => c ⟨j, by omega, pj⟩⟩
def eT (s : Int) (b : Br) : D := .tuple [.tuple [.int s, .int b.1, .int b.2.1], .int b.2.2]
def tk : Sc → List D
  | none => []
  | some (s, bs) => bs.map (eT s)
def scAt (ss : List Sc) (v : Int) : Sc := match ss[v.toNat]? with
  | some sc => sc
  | none => none
def bsOf : Sc → List Br
  | none => []
  | some (_, bs) => bs
def brs (ss : List Sc) (v : Int) : List Br := bsOf (scAt ss v)
def GG (ss : List Sc) (v : Int) : List Int := (brs ss v).map (·.2.2)
theorem Two.len {bs : List Br} (h : Two bs) : 1 ≤ bs.length ∧ bs.length ≤ 2 := by
  rcases h with ⟨b, rfl⟩ | ⟨b, c, rfl, _⟩ <;> simp
theorem Ok.bsl {n : Int} {ss : List Sc} (k : Ok n ss) {sc : Sc} (h : sc ∈ ss) : (bsOf sc).length ≤ 2 := by
  cases sc with
  | none => simp [bsOf]
  | some p => exact (k.sc p.1 p.2 h).2.1.len.2
theorem scAt_mem {ss : List Sc} {v : Int} (h0 : 0 ≤ v) (h1 : v < ss.length) : ss[v.toNat]? = some (scAt ss v) ∧ scAt ss v ∈ ss := by
  have : v.toNat < ss.length := by omega
  have e : ss[v.toNat]? = some ss[v.toNat] := List.getElem?_eq_getElem this
  have e2 : scAt ss v = ss[v.toNat] := by unfold scAt; rw [e]
  rw [e2]; exact ⟨e, List.getElem_mem this⟩
theorem Ok.web {n : Int} {ss : List Sc} (k : Ok n ss) : Bf.Web ss.length (GG ss) where
  le := by have := k.m; omega
  to := by
    intro u hu t ht
    obtain ⟨b, hb, rfl⟩ := List.mem_map.mp ht
    have h := (scAt_mem hu.1 hu.2).2
    unfold brs at hb
    cases e : scAt ss u with
    | none => rw [e] at hb; simp [bsOf] at hb
    | some p =>
      rw [e] at hb h
      exact ((k.sc p.1 p.2 h).2.2 b hb).t
theorem talks_from_eq {sc : Sc} (h : (bsOf sc).length ≤ 2) : m_talks_from [eS sc] = some (.list (tk sc)) := by
  cases sc with
  | none =>
    refine mkF_rt (x := row0) rfl ?_
    simp [b_talks_from, sSeq, sIf, fTst, fBin, fBor, fC, gIsN, isNoneD, sRet, startE, fLst, aNil, maxLen, eS, tk]
  | some p =>
    obtain ⟨s, bs⟩ := p
    refine mkF_rt (x := row0) rfl ?_
    have c1 : fOfX (xLc (fSeq (fVar 2)) (gtTup 3 (gtCons (gtName 3) (gtCons (gtName 4) (gtCons (gtName 5) gtNil)))) tYesF (fTup (aCons (fTup (aCons (fVar 1) (aCons (fVar 3) (aCons (fVar 4) aNil)))) (aCons (fVar 5) aNil))) [3, 4, 5]) [.va (eS (some (s, bs))), .va (.int s), .va (.tuple (bs.map eB)), .no, .no, .no] row0 = some (.list (bs.map (eT s)), row0) := by
      refine lc_eq (ds := bs.map eB) (by simp [fSeq, fVar]) (compL_map eB _ bs fun b hb' => ⟨_, rfl, rfl, ?_⟩) ?_
      · simp [fTup, aCons, aNil, fVar, wipeE, gtName, eT, maxLen]
      · simp only [bsOf] at h; simp only [List.length_map, maxLen]; omega
    have c2 : fTst (fBin gIsN (fBor 0) (fC .none)) [.va (eS (some (s, bs))), .no, .no, .no, .no, .no] row0 = some (false, row0) := by
      simp [fTst, fBin, fBor, fC, gIsN, isNoneD, eS]
    have c3 : sUnp (fVar 0) (gtTup 2 (gtCons (gtName 1) (gtCons (gtName 2) gtNil))) [.va (eS (some (s, bs))), .no, .no, .no, .no, .no] row0 = some (.nx [.va (eS (some (s, bs))), .va (.int s), .va (.tuple (bs.map eB)), .no, .no, .no], row0) := by
      simp [sUnp, fVar, gtTup, gtCons, gtName, gtNil, eS]
    show b_talks_from [.va (eS (some (s, bs))), .no, .no, .no, .no, .no] row0 = _
    simp only [b_talks_from, sSeq, sIf, c2, sNil, c3, sRet, c1, tk]
def webD (ss : List Sc) : D := .list (ss.map fun sc => .list (tk sc))
theorem talk_web_eq {n : Int} {ss : List Sc} (k : Ok n ss) : m_talk_web [eX n ss] = some (webD ss) := by
  refine mkF_rt (x := row0) rfl ?_
  have c1 : fOfX (xLc (fSeq (fBin gAt (fBor 0) (fC (.int 1)))) (gtName 1) tYesF (fCall m_talks_from (aCons (fVar 1) aNil)) [1]) [.va (eX n ss), .no] row0 = some (webD ss, row0) := by
    refine lc_eq (ds := ss.map eS) (by simp [fSeq, fBin, fBor, fC, gAt, eX, atI_z1]) (compL_map eS _ ss fun sc hb' => ⟨_, rfl, rfl, ?_⟩) ?_
    · simp [fCall, aCons, aNil, fVar, wipeE, gtName, talks_from_eq (k.bsl hb')]
    · have := k.m; simp only [List.length_map, maxLen]; omega
  show b_talk_web [.va (eX n ss), .no] row0 = _
  simp only [b_talk_web, sRet, c1]
theorem web_at {ss : List Sc} {v : Int} (h0 : 0 ≤ v) (h1 : v < ss.length) : gAt (webD ss) (.int v) = some (.list (tk (scAt ss v))) := by
  have e := (scAt_mem h0 h1).1
  simp only [webD, gAt]
  exact atI_int h0 (by rw [List.getElem?_map, e]; rfl)
theorem tk_map (sc : Sc) : ∃ s, tk sc = (bsOf sc).map (eT s) := by
  cases sc with
  | none => exact ⟨0, rfl⟩
  | some p => exact ⟨p.1, rfl⟩
theorem adds_fold (bs : List Br) : ∀ acc : List Int, bs.foldl (fun acc b => Bf.adds acc [b.2.2]) acc = Bf.adds acc (bs.map (·.2.2)) := by
  induction bs with
  | nil => intro acc; rfl
  | cons b bs ih => intro acc; rw [List.foldl_cons, ih, List.map_cons, Bf.adds_cons, Bf.adds_cons, Bf.adds_nil]
theorem adds1_len (acc : List Int) (t : Int) : (Bf.adds acc [t]).length ≤ acc.length + 1 := by
  rw [Bf.adds_cons, Bf.adds_nil]; split <;> simp
def cmEnv (ss : List Sc) (v : Int) (O : List Int) (at' : Int) (p q r : FSl) : FEn := [.va (webD ss), .va (.int v), .ow (.lst (O.map .int)), .ow (.dk (dS O)), .va (.int at'), p, q, r]
theorem cm_body {ss : List Sc} {v t : Int} {O : List Int} (hO : O.length ≤ 100) (k : Int) (p q : FSl) :
    sIf (fTst (fBin gNotInA (fBor 7) (fBor 3))) (sSeq (sDPut 3 (fVar 7) (fC (.bool true))) (sApp 2 (fVar 7))) sNil (cmEnv ss v O k p q (.va (.int t))) row0 = some (.nx (cmEnv ss v (Bf.adds O [t]) k p q (.va (.int t))), row0) := by
  have hl : (dS O).length < maxLen := by simp only [dS, List.length_map, maxLen]; omega
  have hl2 : (O.map D.int).length < maxLen := by simp only [List.length_map, maxLen]; omega
  have hp := dS_put t O
  by_cases c : t ∈ O
  · have e : Bf.adds O [t] = O := by rw [Bf.adds_cons, Bf.adds_nil, if_pos c]
    rw [e]
    simp [sIf, fTst, fBin, fBor, cmEnv, OwD.d, dS_notin, c, sNil]
  · have e : Bf.adds O [t] = O ++ [t] := by rw [Bf.adds_cons, Bf.adds_nil, if_neg c]
    rw [e] at hp ⊢
    have c1 : fTst (fBin gNotInA (fBor 7) (fBor 3)) (cmEnv ss v O k p q (.va (.int t))) row0 = some (true, row0) := by
      simp [fTst, fBin, fBor, cmEnv, OwD.d, dS_notin, c]
    have c2 : sDPut 3 (fVar 7) (fC (.bool true)) (cmEnv ss v O k p q (.va (.int t))) row0 = some (.nx [.va (webD ss), .va (.int v), .ow (.lst (O.map .int)), .ow (.dk (dS (O ++ [t]))), .va (.int k), p, q, .va (.int t)], row0) := by
      simp [sDPut, fVar, fC, cmEnv, dKey, hl, hp]
    have c3 : sApp 2 (fVar 7) [.va (webD ss), .va (.int v), .ow (.lst (O.map .int)), .ow (.dk (dS (O ++ [t]))), .va (.int k), p, q, .va (.int t)] row0 = some (.nx (cmEnv ss v (O ++ [t]) k p q (.va (.int t))), row0) := by
      simp only [sApp, fVar, List.getElem?_cons_succ, List.getElem?_cons_zero, if_pos hl2]
      simp [cmEnv]
    simp only [sIf, c1, sSeq, c2, c3]
theorem coming_inner {ss : List Sc} {v : Int} {s : Int} (bs : List Br) (O : List Int) (hO : O.length + bs.length ≤ 100) (k : Int) (p q r : FSl) :
    ∃ q' r', forL (gtTup 2 (gtCons (gtName 6) (gtCons (gtName 7) gtNil))) (sIf (fTst (fBin gNotInA (fBor 7) (fBor 3))) (sSeq (sDPut 3 (fVar 7) (fC (.bool true))) (sApp 2 (fVar 7))) sNil) (bs.map (eT s)) (cmEnv ss v O k p q r) row0 = some (.nx (cmEnv ss v (Bf.adds O (bs.map (·.2.2))) k p q' r'), row0) := by
  induction bs generalizing O q r with
  | nil => exact ⟨q, r, rfl⟩
  | cons b bs ih =>
    simp only [List.length_cons] at hO
    have h1 := adds1_len O b.2.2
    obtain ⟨q', r', e⟩ := ih (Bf.adds O [b.2.2]) (by omega) (.va (.tuple [.int s, .int b.1, .int b.2.1])) (.va (.int b.2.2))
    refine ⟨q', r', ?_⟩
    have c1 : gtTup 2 (gtCons (gtName 6) (gtCons (gtName 7) gtNil)) (eT s b) (cmEnv ss v O k p q r) = some (cmEnv ss v O k p (.va (.tuple [.int s, .int b.1, .int b.2.1])) (.va (.int b.2.2))) := by
      simp [gtTup, gtCons, gtName, gtNil, eT, cmEnv]
    have c2 := cm_body (ss := ss) (v := v) (t := b.2.2) (O := O) (by omega) k p (.va (.tuple [.int s, .int b.1, .int b.2.1]))
    rw [List.map_cons, forL, c1]
    simp only [c2]
    exact e
theorem coming_eq {n : Int} {ss : List Sc} (k : Ok n ss) {v : Int} (hv : 0 ≤ v ∧ v < ss.length) : m_coming [webD ss, .int v] = some (.list ((Bf.ord (GG ss) v).map .int)) := by
  have W := k.web
  have hm := k.m
  obtain ⟨stop, hs1, hs2, hs3⟩ := first_ex (P := fun j => (Bf.bf (GG ss) v j).length ≤ j) 8 (by have := Bf.bf_len hv W.to 8; omega)
  have hO : ∀ j, (Bf.bf (GG ss) v j).length ≤ 7 := fun j => by have := Bf.bf_len hv W.to j; omega
  obtain ⟨e2, h1, p, q, r, h2⟩ := whL_inv (t := fTst (fBin gLt (fBor 4) (fCall gLen (aCons (fBor 2) aNil)))) (b := sSeq (sSet 5 (xVal (fBin gAt (fBor 2) (fBor 4))))
    (sSeq (sFor (fSeq (fBin gAt (fBor 0) (fBor 5))) (gtTup 2 (gtCons (gtName 6) (gtCons (gtName 7) gtNil))) (sIf (fTst (fBin gNotInA (fBor 7) (fBor 3))) (sSeq (sDPut 3 (fVar 7) (fC (.bool true)))
    (sApp 2 (fVar 7))) sNil))
    (sAug 4 (fC (.int 1))))) (x := row0) (fun j env => ∃ p q r, env = cmEnv ss v (Bf.bf (GG ss) v j) j p q r) stop (by
      rintro j _ ⟨p, q, r, rfl⟩ hj
      have hlt : j < (Bf.bf (GG ss) v j).length := by have := hs3 j hj; omega
      have hz : (Bf.bf (GG ss) v j)[j]? = some (Bf.bf (GG ss) v j)[j] := List.getElem?_eq_getElem hlt
      have hu := Bf.bf_in (fun x => 0 ≤ x ∧ x < (ss.length : Int)) hv W.to j _ (List.getElem_mem hlt)
      generalize hue : (Bf.bf (GG ss) v j)[j] = u at hz hu
      have hstep : Bf.bf (GG ss) v (j + 1) = Bf.adds (Bf.bf (GG ss) v j) (GG ss u) := by rw [Bf.bf, hz]
      constructor
      · simp [fTst, fBin, fBor, fCall, aCons, aNil, cmEnv, OwD.d, gLen, gLt, gOr, gI, hlt]
      · have ha : L2.atI ((Bf.bf (GG ss) v j).map D.int) (j : Int) = some (.int u) := atI_nat (by rw [List.getElem?_map, hz]; rfl)
        have c1 : sSet 5 (xVal (fBin gAt (fBor 2) (fBor 4))) (cmEnv ss v (Bf.bf (GG ss) v j) j p q r) row0 = some (.nx (cmEnv ss v (Bf.bf (GG ss) v j) j (.va (.int u)) q r), row0) := by
          simp [sSet, xVal, fBin, fBor, cmEnv, OwD.d, gAt, ha]
        obtain ⟨s, hs⟩ := tk_map (scAt ss u)
        have hw := web_at hu.1 hu.2
        rw [hs] at hw
        have hb2 := k.bsl (scAt_mem hu.1 hu.2).2
        obtain ⟨q', r', e⟩ := coming_inner (ss := ss) (v := v) (s := s) (bsOf (scAt ss u)) (Bf.bf (GG ss) v j) (by have := hO j; omega) j (.va (.int u)) q r
        have c2 : fSeq (fBin gAt (fBor 0) (fBor 5)) (cmEnv ss v (Bf.bf (GG ss) v j) j (.va (.int u)) q r) row0 = some ((bsOf (scAt ss u)).map (eT s), row0) := by
          simp [fSeq, fBin, fBor, cmEnv, hw]
        refine ⟨cmEnv ss v (Bf.bf (GG ss) v (j + 1)) (j + 1 : Nat) (.va (.int u)) q' r', ?_, _, _, _, rfl⟩
        simp only [sSeq, c1, sFor, c2, e]
        rw [hstep]
        simp [sAug, fC, cmEnv, GG, brs]) (by
      rintro _ ⟨p, q, r, rfl⟩
      have : ¬ stop < (Bf.bf (GG ss) v stop).length := by omega
      simp [fTst, fBin, fBor, fCall, aCons, aNil, cmEnv, OwD.d, gLen, gLt, gOr, gI, this]) 1000 0 (cmEnv ss v [v] 0 .no .no .no) ⟨_, _, _, rfl⟩ (by omega) (by omega)
  subst h2
  rw [Bf.ord_end W hv hs2] at h1
  refine mkF_rt (x := row0) rfl ?_
  have c1 : sSet 2 (xLst (aCons (fVar 1) aNil)) [.va (webD ss), .va (.int v), .no, .no, .no, .no, .no, .no] row0 = some (.nx [.va (webD ss), .va (.int v), .ow (.lst [.int v]), .no, .no, .no, .no, .no], row0) := by
    simp [sSet, xLst, aCons, aNil, fVar, maxLen]
  have c2 : sSet 3 (xDict1 (fVar 1) (fC (.bool true))) [.va (webD ss), .va (.int v), .ow (.lst [.int v]), .no, .no, .no, .no, .no] row0 = some (.nx [.va (webD ss), .va (.int v), .ow (.lst [.int v]), .ow (.dk (dS [v])), .no, .no, .no, .no], row0) := by
    simp [sSet, xDict1, fVar, fC, dKey, dS]
  have c3 : sSet 4 (xVal (fC (.int 0))) [.va (webD ss), .va (.int v), .ow (.lst [.int v]), .ow (.dk (dS [v])), .no, .no, .no, .no] row0 = some (.nx (cmEnv ss v [v] 0 .no .no .no), row0) := by
    simp [sSet, xVal, fC, cmEnv]
  show b_coming [.va (webD ss), .va (.int v), .no, .no, .no, .no, .no, .no] row0 = _
  unfold b_coming
  rw [sSeq_nx c1, sSeq_nx c2, sSeq_nx c3, sSeq_nx h1]
  simp [sFrz, eFrz, sRet, fVar, cmEnv, OwD.d]
end Lw

namespace Lw
open PySem RT
theorem eX_at {n : Int} {ss : List Sc} {v : Int} (h0 : 0 ≤ v) (h1 : v < ss.length) : gAt (.tuple (ss.map eS)) (.int v) = some (eS (scAt ss v)) := by
  have e := (scAt_mem h0 h1).1
  simp only [gAt]
  exact atI_int h0 (by rw [List.getElem?_map, e]; rfl)
theorem eX_1 (n : Int) (ss : List Sc) : gAt (eX n ss) (.int 1) = some (.tuple (ss.map eS)) := by simp [gAt, eX, atI_z1]
theorem eX_0 (n : Int) (ss : List Sc) : gAt (eX n ss) (.int 0) = some (.int n) := by simp [gAt, eX, atI_z0]
theorem law_branches_eq {n : Int} {ss : List Sc} {v : Int} (h0 : 0 ≤ v) (h1 : v < ss.length) : m_law_branches [eX n ss, .int v] = some (.tuple ((brs ss v).map eB)) := by
  refine mkF_rt (x := row0) rfl ?_
  have e := eX_at (n := n) h0 h1
  have e1 := eX_1 n ss
  unfold brs
  cases c : scAt ss v with
  | none =>
    rw [c] at e
    have e2 : fBin gAt (fBin gAt (fBor 0) (fC (.int 1))) (fBor 1) [.va (eX n ss), .va (.int v)] row0 = some (.none, row0) := by simp [fBin, fBor, fC, e1, e, eS]
    have e3 : fTst (fBin gNotN (fBin gAt (fBin gAt (fBor 0) (fC (.int 1))) (fBor 1)) (fC .none)) [.va (eX n ss), .va (.int v)] row0 = some (false, row0) := by
      rw [fTst, fBin, e2]; simp [fC, gNotN, isNoneD]
    show b_law_branches [.va (eX n ss), .va (.int v)] row0 = _
    simp only [b_law_branches, sRet, fIf, e3]
    simp [fTup, aNil, maxLen, bsOf]
  | some p =>
    rw [c] at e
    have e2 : fBin gAt (fBin gAt (fBor 0) (fC (.int 1))) (fBor 1) [.va (eX n ss), .va (.int v)] row0 = some (eS (some p), row0) := by simp [fBin, fBor, fC, e1, e]
    have e3 : fTst (fBin gNotN (fBin gAt (fBin gAt (fBor 0) (fC (.int 1))) (fBor 1)) (fC .none)) [.va (eX n ss), .va (.int v)] row0 = some (true, row0) := by
      rw [fTst, fBin, e2]; simp [fC, gNotN, isNoneD, eS]
    have e4 : fBin gAt (fBin gAt (fBin gAt (fBor 0) (fC (.int 1))) (fBor 1)) (fC (.int 1)) [.va (eX n ss), .va (.int v)] row0 = some (.tuple (p.2.map eB), row0) := by
      rw [fBin, e2]; simp [fC, eS, gAt, atI_z1]
    show b_law_branches [.va (eX n ss), .va (.int v)] row0 = _
    simp only [b_law_branches, sRet, fIf, e3, e4, bsOf]
def lcEnv (X : D) (v : Int) (acc last : List Int) (c : Int) (L : Nat) (p q : FSl) : FEn := [.va X, .va (.int v), .ow (.dk (dS acc)), .va (.list (last.map .int)), .va (.int c), .ow (.lst ((acc.drop L).map .int)), p, q]
theorem lc_body {X : D} {v : Int} {acc last : List Int} {b : Br} (hO : acc.length ≤ 100) {L : Nat} (hL : L ≤ acc.length) (c : Int) (p : FSl) :
    sIf (fTst (fBin gNotInA (fBin gAt (fBor 7) (fC (.int 2))) (fBor 2))) (sSeq (sDPut 2 (fBin gAt (fBor 7) (fC (.int 2))) (fC (.bool true))) (sApp 5 (fBin gAt (fBor 7) (fC (.int 2))))) sNil (lcEnv X v acc last c L p (.va (eB b))) row0 = some (.nx (lcEnv X v (Bf.adds acc [b.2.2]) last c L p (.va (eB b))), row0) := by
  have hl : (dS acc).length < maxLen := by simp only [dS, List.length_map, maxLen]; omega
  have hl2 : ((acc.drop L).map D.int).length < maxLen := by simp only [List.length_map, List.length_drop, maxLen]; omega
  have hp := dS_put b.2.2 acc
  have ht : gAt (eB b) (.int 2) = some (.int b.2.2) := by simp [gAt, eB, atI_z2]
  by_cases h : b.2.2 ∈ acc
  · have e : Bf.adds acc [b.2.2] = acc := by rw [Bf.adds_cons, Bf.adds_nil, if_pos h]
    rw [e]
    simp [sIf, fTst, fBin, fBor, fC, lcEnv, OwD.d, ht, dS_notin, h, sNil]
  · have e : Bf.adds acc [b.2.2] = acc ++ [b.2.2] := by rw [Bf.adds_cons, Bf.adds_nil, if_neg h]
    rw [e] at hp ⊢
    have c1 : fTst (fBin gNotInA (fBin gAt (fBor 7) (fC (.int 2))) (fBor 2)) (lcEnv X v acc last c L p (.va (eB b))) row0 = some (true, row0) := by
      simp [fTst, fBin, fBor, fC, lcEnv, OwD.d, ht, dS_notin, h]
    have c2 : sDPut 2 (fBin gAt (fBor 7) (fC (.int 2))) (fC (.bool true)) (lcEnv X v acc last c L p (.va (eB b))) row0 = some (.nx [.va X, .va (.int v), .ow (.dk (dS (acc ++ [b.2.2]))), .va (.list (last.map .int)), .va (.int c), .ow (.lst ((acc.drop L).map .int)), p, .va (eB b)], row0) := by
      simp [sDPut, fBin, fBor, fC, lcEnv, ht, dKey, hl, hp]
    have c3 : sApp 5 (fBin gAt (fBor 7) (fC (.int 2))) [.va X, .va (.int v), .ow (.dk (dS (acc ++ [b.2.2]))), .va (.list (last.map .int)), .va (.int c), .ow (.lst ((acc.drop L).map .int)), p, .va (eB b)] row0 = some (.nx (lcEnv X v (acc ++ [b.2.2]) last c L p (.va (eB b))), row0) := by
      simp only [sApp, fBin, fBor, fC, List.getElem?_cons_succ, List.getElem?_cons_zero, ht, if_pos hl2]
      simp [lcEnv, List.drop_append_of_le_length hL]
    simp only [sIf, c1, sSeq, c2, c3]
theorem lc_inner {X : D} {v : Int} {last : List Int} (bs : List Br) (acc : List Int) (hO : acc.length + bs.length ≤ 100) {L : Nat} (hL : L ≤ acc.length) (c : Int) (p q : FSl) :
    ∃ q', forL (gtName 7) (sIf (fTst (fBin gNotInA (fBin gAt (fBor 7) (fC (.int 2))) (fBor 2))) (sSeq (sDPut 2 (fBin gAt (fBor 7) (fC (.int 2))) (fC (.bool true))) (sApp 5 (fBin gAt (fBor 7) (fC (.int 2))))) sNil) (bs.map eB) (lcEnv X v acc last c L p q) row0 = some (.nx (lcEnv X v (Bf.adds acc (bs.map (·.2.2))) last c L p q'), row0) := by
  induction bs generalizing acc q with
  | nil => exact ⟨q, rfl⟩
  | cons b bs ih =>
    simp only [List.length_cons] at hO
    have h1 := adds1_len acc b.2.2
    have h2 := (Bf.adds_pre [b.2.2] acc).length_le
    obtain ⟨q', e⟩ := ih (Bf.adds acc [b.2.2]) (by omega) (by omega) (.va (eB b))
    refine ⟨q', ?_⟩
    have c2 := lc_body (X := X) (v := v) (acc := acc) (last := last) (b := b) (by omega) hL c p
    rw [List.map_cons, forL]
    simp only [gtName]
    rw [show (lcEnv X v acc last c L p q).set 7 (.va (eB b)) = lcEnv X v acc last c L p (.va (eB b)) from rfl]
    simp only [c2]
    exact e
theorem adds_len (ts : List Int) : ∀ acc : List Int, (Bf.adds acc ts).length ≤ acc.length + ts.length := by
  induction ts with
  | nil => intro acc; simp [Bf.adds_nil]
  | cons t ts ih => intro acc; have := ih (Bf.adds acc [t]); have := adds1_len acc t; rw [show Bf.adds acc (t :: ts) = Bf.adds (Bf.adds acc [t]) ts from rfl]; simp only [List.length_cons]; omega
theorem lc_mid {n : Int} {ss : List Sc} (k : Ok n ss) {v : Int} {last : List Int} (us : List Int) (hu : ∀ u ∈ us, 0 ≤ u ∧ u < (ss.length : Int)) (acc : List Int) (hO : acc.length + 2 * us.length ≤ 90) {L : Nat} (hL : L ≤ acc.length) (c : Int) (p q : FSl) :
    ∃ p' q', forL (gtName 6) (sFor (fSeq (fCall m_law_branches (aCons (fVar 0) (aCons (fVar 6) aNil)))) (gtName 7) (sIf (fTst (fBin gNotInA (fBin gAt (fBor 7) (fC (.int 2))) (fBor 2))) (sSeq (sDPut 2 (fBin gAt (fBor 7) (fC (.int 2))) (fC (.bool true))) (sApp 5 (fBin gAt (fBor 7) (fC (.int 2))))) sNil)) (us.map .int) (lcEnv (eX n ss) v acc last c L p q) row0 = some (.nx (lcEnv (eX n ss) v (Bf.lv (GG ss) acc us) last c L p' q'), row0) := by
  induction us generalizing acc p q with
  | nil => exact ⟨p, q, rfl⟩
  | cons u us ih =>
    have hu0 := hu u (by simp)
    have hb2 : (brs ss u).length ≤ 2 := k.bsl (scAt_mem hu0.1 hu0.2).2
    simp only [List.length_cons] at hO
    obtain ⟨q1, e1⟩ := lc_inner (X := eX n ss) (v := v) (last := last) (brs ss u) acc (by omega) hL c (.va (.int u)) q
    have h1 := adds_len ((brs ss u).map (·.2.2)) acc
    rw [List.length_map] at h1
    have h2 := (Bf.adds_pre ((brs ss u).map (·.2.2)) acc).length_le
    obtain ⟨p', q', e⟩ := ih (fun u hu' => hu u (by simp [hu'])) (Bf.adds acc (GG ss u)) (by unfold GG; omega) (by unfold GG; omega) (.va (.int u)) q1
    refine ⟨p', q', ?_⟩
    have c1 : fSeq (fCall m_law_branches (aCons (fVar 0) (aCons (fVar 6) aNil))) (lcEnv (eX n ss) v acc last c L (.va (.int u)) q) row0 = some ((brs ss u).map eB, row0) := by
      simp [fSeq, fCall, aCons, aNil, fVar, lcEnv, law_branches_eq hu0.1 hu0.2]
    rw [List.map_cons, forL]
    simp only [gtName]
    rw [show (lcEnv (eX n ss) v acc last c L p q).set 6 (.va (.int u)) = lcEnv (eX n ss) v acc last c L (.va (.int u)) q from rfl]
    simp only [sFor, c1]
    rw [e1]
    exact e
def Pc (G : Int → List Int) (v : Int) : Nat → Nat
  | 0 => 0
  | c + 1 => Pc G v c + ((Bf.bf G v (Pc G v c)).drop (Pc G v c)).length
theorem dS_keys (l : List Int) : (dS l).map (·.1) = l.map .int := by simp [dS]
theorem law_coming_eq {n : Int} {ss : List Sc} (k : Ok n ss) {v : Int} (hv : 0 ≤ v ∧ v < ss.length) : m_law_coming [eX n ss, .int v] = some (.list ((sortI (Bf.ord (GG ss) v)).map .int)) := by
  have W := k.web
  have hm := k.m
  have hO : ∀ j, (Bf.bf (GG ss) v j).length ≤ 7 := fun j => by have := Bf.bf_len hv W.to j; omega
  have hst : ∃ j, j ≤ 8 ∧ (Bf.bf (GG ss) v (Pc (GG ss) v j)).length ≤ Pc (GG ss) v j := by
    by_cases c : ∃ j, j ≤ 8 ∧ (Bf.bf (GG ss) v (Pc (GG ss) v j)).length ≤ Pc (GG ss) v j
    · exact c
    · have : ∀ j, j ≤ 8 → j ≤ Pc (GG ss) v j := by
        intro j
        induction j with
        | zero => intro _; omega
        | succ j ih =>
          intro hj
          have h1 := ih (by omega)
          have h2 : ¬ (Bf.bf (GG ss) v (Pc (GG ss) v j)).length ≤ Pc (GG ss) v j := fun h => c ⟨j, by omega, h⟩
          rw [Pc, List.length_drop]; omega
      have := this 8 (by omega)
      exact ⟨8, by omega, by have := hO (Pc (GG ss) v 8); omega⟩
  obtain ⟨j0, hj0, hj1⟩ := hst
  obtain ⟨stop, hs1, hs2, hs3⟩ := first_ex (P := fun j => (Bf.bf (GG ss) v (Pc (GG ss) v j)).length ≤ Pc (GG ss) v j) j0 hj1
  obtain ⟨e2, h1, s5, p, q, h2⟩ := whL_inv (t := tAndF (fTst (fBin gNe (fBor 3) (fLst aNil))) (fTst (fBin gLt (fBor 4) (fC (.int 10))))) (b := sSeq (sPars [4, 5] (xsCons (xVal (fBin gAdd (fBor 4) (fC (.int 1)))) (xsCons (xLst aNil) xsNil)))
    (sSeq (sFor (fSeq (fVar 3)) (gtName 6) (sFor (fSeq (fCall m_law_branches (aCons (fVar 0) (aCons (fVar 6) aNil)))) (gtName 7) (sIf (fTst (fBin gNotInA (fBin gAt (fBor 7) (fC (.int 2))) (fBor 2))) (sSeq (sDPut 2 (fBin gAt (fBor 7) (fC (.int 2))) (fC (.bool true)))
    (sApp 5 (fBin gAt (fBor 7) (fC (.int 2))))) sNil)))
    (sFrz 5 (sSet 3 (xVal (fVar 5)))))) (x := row0) (fun j env => ∃ s5 p q, env = [.va (eX n ss), .va (.int v), .ow (.dk (dS (Bf.bf (GG ss) v (Pc (GG ss) v j)))), .va (.list (((Bf.bf (GG ss) v (Pc (GG ss) v j)).drop (Pc (GG ss) v j)).map .int)), .va (.int j), s5, p, q]) stop (by
      rintro j _ ⟨s5, p, q, rfl⟩ hj
      have hnd := hs3 j hj
      generalize hP : Pc (GG ss) v j = P at hnd ⊢
      have hne : ((Bf.bf (GG ss) v P).drop P).isEmpty = false := by
        cases e : (Bf.bf (GG ss) v P).drop P with
        | nil => have := congrArg List.length e; simp only [List.length_drop, List.length_nil] at this; omega
        | cons a l => rfl
      have hin : ∀ u ∈ (Bf.bf (GG ss) v P).drop P, 0 ≤ u ∧ u < (ss.length : Int) := fun u hu => Bf.bf_in (fun x => 0 ≤ x ∧ x < (ss.length : Int)) hv W.to P u (List.mem_of_mem_drop hu)
      have hlv := Bf.lv_all (G := GG ss) (v := v) P
      have hPn : Pc (GG ss) v (j + 1) = P + ((Bf.bf (GG ss) v P).drop P).length := by rw [Pc, hP]
      have hP2 : Pc (GG ss) v (j + 1) = (Bf.bf (GG ss) v P).length := by rw [hPn, List.length_drop]; omega
      generalize hla : (Bf.bf (GG ss) v P).drop P = last at *
      have hll : last.length ≤ 7 := by rw [← hla, List.length_drop]; have := hO P; omega
      have hlt : (j : Int) < 10 := by omega
      have hml : (0 : Nat) ≤ maxLen := Nat.zero_le _
      constructor
      · have c1 : fTst (fBin gNe (fBor 3) (fLst aNil)) [.va (eX n ss), .va (.int v), .ow (.dk (dS (Bf.bf (GG ss) v P))), .va (.list (last.map .int)), .va (.int j), s5, p, q] row0 = some (true, row0) := by
          simp [fTst, fBin, fBor, fLst, aNil, hml, ne_nil, hne]
        simp only [tAndF, c1]
        simp [fTst, fBin, fBor, fC, gLt, gOr, gI, hlt]
      · obtain ⟨p', q', e⟩ := lc_mid k (v := v) (last := last) last hin (Bf.bf (GG ss) v P) (by have := hO P; omega) (L := (Bf.bf (GG ss) v P).length) (Nat.le_refl _) (j + 1 : Nat) p q
        have c1 : sPars [4, 5] (xsCons (xVal (fBin gAdd (fBor 4) (fC (.int 1)))) (xsCons (xLst aNil) xsNil)) [.va (eX n ss), .va (.int v), .ow (.dk (dS (Bf.bf (GG ss) v P))), .va (.list (last.map .int)), .va (.int j), s5, p, q] row0 = some (.nx (lcEnv (eX n ss) v (Bf.bf (GG ss) v P) last (j + 1 : Nat) (Bf.bf (GG ss) v P).length p q), row0) := by
          simp [sPars, xsCons, xsNil, xVal, xLst, aNil, fBin, fBor, fC, gAdd, gOr, gI, hml, setsE, lcEnv]
        have c2 : fSeq (fVar 3) (lcEnv (eX n ss) v (Bf.bf (GG ss) v P) last (j + 1 : Nat) (Bf.bf (GG ss) v P).length p q) row0 = some (last.map .int, row0) := by
          simp [fSeq, fVar, lcEnv]
        rw [hlv] at e
        refine ⟨_, ?_, .va (.list (((Bf.bf (GG ss) v (P + last.length)).drop (Bf.bf (GG ss) v P).length).map .int)), p', q', rfl⟩
        rw [hPn]
        simp only [sSeq, c1, sFor, c2]
        rw [e]
        rw [← hPn, hP2]
        simp [sFrz, eFrz, sSet, xVal, fVar, lcEnv, OwD.d]) (by
      rintro _ ⟨s5, p, q, rfl⟩
      have : (Bf.bf (GG ss) v (Pc (GG ss) v stop)).drop (Pc (GG ss) v stop) = [] := List.drop_eq_nil_of_le hs2
      have hml : (0 : Nat) ≤ maxLen := Nat.zero_le _
      have h0 := ne_nil []
      rw [List.map_nil] at h0
      rw [this]
      simp [tAndF, fTst, fBin, fBor, fLst, aNil, hml, h0]) 1000 0 [.va (eX n ss), .va (.int v), .ow (.dk (dS [v])), .va (.list [.int v]), .va (.int 0), .no, .no, .no] ⟨_, _, _, rfl⟩ (by omega) (by omega)
  subst h2
  rw [Bf.ord_end W hv hs2] at h1
  refine mkF_rt (x := row0) rfl ?_
  have c1 : sPars [2, 3, 4] (xsCons (xDict1 (fVar 1) (fC (.bool true))) (xsCons (xVal (fLst (aCons (fVar 1) aNil))) (xsCons (xVal (fC (.int 0))) xsNil))) [.va (eX n ss), .va (.int v), .no, .no, .no, .no, .no, .no] row0 = some (.nx [.va (eX n ss), .va (.int v), .ow (.dk (dS [v])), .va (.list [.int v]), .va (.int 0), .no, .no, .no], row0) := by
    simp [sPars, xsCons, xsNil, xVal, xDict1, fVar, fLst, aCons, aNil, fC, dKey, setsE, dS, maxLen]
  show b_law_coming [.va (eX n ss), .va (.int v), .no, .no, .no, .no, .no, .no] row0 = _
  unfold b_law_coming
  rw [sSeq_nx c1, sSeq_nx h1]
  simp [sRet, fCall, aCons, aNil, fBor, OwD.d, gListOf, dS_keys, gSort, cOr, gSortI, intsD_map]
end Lw

namespace Lw
open PySem RT
theorem forL_find {α : Type} {gt : FGt} {b : FS} {x : FRow} (enc : α → D) (p : α → Bool) (d : D) (R : FEn → Prop) : ∀ (l : List α) (env : FEn), (∀ a ∈ l, ∀ env, R env → ∃ e, gt (enc a) env = some e ∧ (p a = true → b e x = some (.rt d, x)) ∧ (p a = false → ∃ e2, b e x = some (.nx e2, x) ∧ R e2)) → R env →
    (l.any p = true → forL gt b (l.map enc) env x = some (.rt d, x)) ∧ (l.any p = false → ∃ e2, forL gt b (l.map enc) env x = some (.nx e2, x) ∧ R e2)
  | [], env, _, r => ⟨by simp, fun _ => ⟨env, rfl, r⟩⟩
  | a :: l, env, h, r => by
    obtain ⟨e, h1, h2, h3⟩ := h a (by simp) env r
    cases hp : p a with
    | true => exact ⟨fun _ => by simp [forL, h1, h2 hp], fun h => by simp [hp] at h⟩
    | false =>
      obtain ⟨e2, h4, h5⟩ := h3 hp
      have ih := forL_find enc p d R l e2 (fun b hb => h b (by simp [hb])) h5
      constructor
      · intro hh
        have := ih.1 (by simpa [hp] using hh)
        simp [forL, h1, h4, this]
      · intro hh
        obtain ⟨e3, h6, h7⟩ := ih.2 (by simpa [hp] using hh)
        exact ⟨e3, by simp [forL, h1, h4, h6], h7⟩
abbrev OO (ss : List Sc) (v : Int) : List Int := Bf.ord (GG ss) v
abbrev RR (ss : List Sc) : List Int := sortI (OO ss 0)
section
variable {n : Int} {ss : List Sc}
theorem Ok.z (k : Ok n ss) : (0 : Int) ≤ 0 ∧ (0 : Int) < ss.length := by have := k.m; omega
theorem OO_in (k : Ok n ss) {v : Int} (hv : 0 ≤ v ∧ v < ss.length) : ∀ u ∈ OO ss v, 0 ≤ u ∧ u < (ss.length : Int) := Bf.ord_in k.web hv
theorem RR_in (k : Ok n ss) : ∀ u ∈ RR ss, 0 ≤ u ∧ u < (ss.length : Int) := fun u hu => OO_in k k.z u ((sortI_perm _).mem_iff.mp hu)
theorem OO_len (k : Ok n ss) {v : Int} (hv : 0 ≤ v ∧ v < ss.length) : (OO ss v).length ≤ 7 := by have := Bf.ord_len k.web hv; have := k.m; unfold OO; omega
theorem RR_len (k : Ok n ss) : (RR ss).length ≤ 7 := by rw [RR, (sortI_perm _).length_eq]; exact OO_len k k.z
theorem RR_mem (u : Int) : u ∈ RR ss ↔ u ∈ OO ss 0 := (sortI_perm _).mem_iff
theorem drop_ok (k : Ok n ss) {rest : List FSl} : sDrop (fCall m_check_script (aCons (fVar 0) aNil)) (.va (eX n ss) :: rest) row0 = some (.nx (.va (eX n ss) :: rest), row0) := by
  obtain ⟨d, h⟩ := check_ok k
  simp [sDrop, fCall, aCons, aNil, fVar, h]
theorem sort_eq (l : List Int) : gSort [.list (l.map .int)] = some (.list ((sortI l).map .int)) := by
  simp [gSort, cOr, gSortI, intsD_map]
theorem reached_eq (k : Ok n ss) : m_reached_scenes [eX n ss] = some (.tuple ((RR ss).map .int)) := by
  refine mkF_rt (x := row0) rfl ?_
  have c0 := drop_ok k (rest := [])
  show b_reached_scenes [.va (eX n ss)] row0 = _
  unfold b_reached_scenes
  rw [sSeq_nx c0]
  simp [sRet, fCall, aCons, aNil, fVar, fC, talk_web_eq k, coming_eq k k.z, sort_eq, gTupOf]
def isEnd (ss : List Sc) (v : Int) : Bool := (scAt ss v).isNone
theorem none_eS (sc : Sc) : gIsN (eS sc) .none = some (.bool sc.isNone) := by
  cases sc <;> simp [gIsN, eS, isNoneD]
theorem end_eq (k : Ok n ss) : m_end_scenes [eX n ss] = some (.tuple (((RR ss).filter (isEnd ss)).map .int)) := by
  refine mkF_rt (x := row0) rfl ?_
  have c1 : fOfX (xLc (fSeq (fCall m_reached_scenes (aCons (fVar 0) aNil))) (gtName 1) (fTst (fBin gIsN (fBin gAt (fBin gAt (fBor 0) (fC (.int 1))) (fBor 1)) (fC .none))) (fVar 1) [1]) [.va (eX n ss), .no] row0 = some (.list (((RR ss).filter (isEnd ss)).map .int), row0) := by
    refine lc_eq (ds := (RR ss).map .int) (by simp [fSeq, fCall, aCons, aNil, fVar, reached_eq k]) (compL_gen D.int (isEnd ss) D.int (RR ss) fun u hu => ⟨_, rfl, ?_, fun _ => ?_⟩) ?_
    · have hu' := RR_in k u hu
      simp [fTst, fBin, fBor, fC, wipeE, gtName, eX_1, eX_at (n := n) hu'.1 hu'.2, none_eS, isEnd]
    · simp [fVar, wipeE, gtName]
    · have := RR_len k; have := List.length_filter_le (isEnd ss) (RR ss); simp only [List.length_map, maxLen]; omega
  show b_end_scenes [.va (eX n ss), .no] row0 = _
  simp [b_end_scenes, sRet, fCall, aCons, aNil, c1, gTupOf]
def spk : Sc → Int
  | none => 0
  | some (s, _) => s
theorem tk_eq (sc : Sc) : tk sc = (bsOf sc).map (eT (spk sc)) := by cases sc <;> rfl
def tks (ss : List Sc) (v : Int) : List Br := (brs ss v).map fun b => (spk (scAt ss v), b.1, b.2.1)
def TT (ss : List Sc) : List Br := (RR ss).flatMap (tks ss)
theorem flat_len {l : List Int} {f : Int → List Br} (h : ∀ v ∈ l, (f v).length ≤ 2) : (l.flatMap f).length ≤ 2 * l.length := by
  induction l with
  | nil => simp
  | cons a l ih =>
    have := h a (by simp)
    have := ih fun v hv => h v (by simp [hv])
    simp only [List.flatMap_cons, List.length_append, List.length_cons]; omega
theorem brs_len (k : Ok n ss) {v : Int} (hv : 0 ≤ v ∧ v < ss.length) : (brs ss v).length ≤ 2 := k.bsl (scAt_mem hv.1 hv.2).2
theorem TT_len (k : Ok n ss) : (TT ss).length ≤ 14 := by
  have := flat_len (l := RR ss) (f := tks ss) fun v hv => by rw [tks, List.length_map]; exact brs_len k (RR_in k v hv)
  have := RR_len k
  unfold TT; omega
theorem foldl_flat {f : Int → List Br} (l : List Int) : ∀ acc : List Br, l.foldl (fun acc v => acc ++ f v) acc = acc ++ l.flatMap f := by
  induction l with
  | nil => intro acc; simp
  | cons a l ih => intro acc; rw [List.foldl_cons, ih]; simp
theorem ttc_eq (k : Ok n ss) : m_talks_that_come [eX n ss] = some (.list ((TT ss).map eB)) := by
  refine mkF_rt (x := row0) rfl ?_
  have key : ∀ (l : List Int), (∀ v ∈ l, 0 ≤ v ∧ v < (ss.length : Int)) → ∀ (acc : List Br) (p q r : FSl), acc.length + 2 * l.length ≤ 100 → ∃ p' q' r', forL (gtName 2) (sExt 1 (fOfX (xLc (fSeq (fCall m_talks_from (aCons (fBin gAt (fBin gAt (fBor 0) (fC (.int 1))) (fBor 2)) aNil))) (gtTup 2 (gtCons (gtName 3) (gtCons (gtName 4) gtNil))) tYesF (fVar 3) [3, 4]))) (l.map .int) [.va (eX n ss), .ow (.lst (acc.map eB)), p, q, r] row0 = some (.nx [.va (eX n ss), .ow (.lst ((acc ++ l.flatMap (tks ss)).map eB)), p', q', r'], row0) := by
    intro l
    induction l with
    | nil => intro _ acc p q r _; exact ⟨p, q, r, by simp [forL]⟩
    | cons v l ih =>
      intro hl acc p q r hlen
      have hv := hl v (by simp)
      simp only [List.length_cons] at hlen
      have hb := brs_len k hv
      have ht : (tks ss v).length ≤ 2 := by rw [tks, List.length_map]; exact hb
      have c1 : fOfX (xLc (fSeq (fCall m_talks_from (aCons (fBin gAt (fBin gAt (fBor 0) (fC (.int 1))) (fBor 2)) aNil))) (gtTup 2 (gtCons (gtName 3) (gtCons (gtName 4) gtNil))) tYesF (fVar 3) [3, 4]) [.va (eX n ss), .ow (.lst (acc.map eB)), .va (.int v), q, r] row0 = some (.list ((tks ss v).map eB), row0) := by
        rw [show (tks ss v).map eB = (brs ss v).map fun b => eB (spk (scAt ss v), b.1, b.2.1) by simp [tks]]
        refine lc_eq (ds := (brs ss v).map (eT (spk (scAt ss v)))) ?_ (compL_map (eT (spk (scAt ss v))) (fun b => eB (spk (scAt ss v), b.1, b.2.1)) (brs ss v) fun b hb' => ⟨_, rfl, rfl, ?_⟩) ?_
        · simp [fSeq, fCall, aCons, aNil, fBin, fBor, fC, eX_1, eX_at (n := n) hv.1 hv.2, talks_from_eq (k.bsl (scAt_mem hv.1 hv.2).2), tk_eq, brs]
        · simp [fVar, wipeE, gtName, gtTup, gtCons, gtNil, eT, eB]
        · simp only [List.length_map, maxLen]; omega
      have hle : (acc.map eB).length + ((tks ss v).map eB).length ≤ maxLen := by simp only [List.length_map, maxLen]; omega
      obtain ⟨p', q', r', e⟩ := ih (fun u hu => hl u (by simp [hu])) (acc ++ tks ss v) (.va (.int v)) q r (by simp only [List.length_append]; omega)
      refine ⟨p', q', r', ?_⟩
      rw [List.map_cons, forL]
      simp only [gtName]
      rw [show [FSl.va (eX n ss), .ow (.lst (acc.map eB)), p, q, r].set 2 (.va (.int v)) = [.va (eX n ss), .ow (.lst (acc.map eB)), .va (.int v), q, r] from rfl]
      have c2 : sExt 1 (fOfX (xLc (fSeq (fCall m_talks_from (aCons (fBin gAt (fBin gAt (fBor 0) (fC (.int 1))) (fBor 2)) aNil))) (gtTup 2 (gtCons (gtName 3) (gtCons (gtName 4) gtNil))) tYesF (fVar 3) [3, 4])) [.va (eX n ss), .ow (.lst (acc.map eB)), .va (.int v), q, r] row0 = some (.nx [.va (eX n ss), .ow (.lst ((acc ++ tks ss v).map eB)), .va (.int v), q, r], row0) := by
        simp only [sExt, c1, List.getElem?_cons_succ, List.getElem?_cons_zero, if_pos hle]
        simp
      simp only [c2, e]
      simp
  obtain ⟨p', q', r', e⟩ := key (RR ss) (RR_in k) [] .no .no .no (by have := RR_len k; simp; omega)
  have c0 : sSet 1 (xLst aNil) [.va (eX n ss), .no, .no, .no, .no] row0 = some (.nx [.va (eX n ss), .ow (.lst []), .no, .no, .no], row0) := by
    simp [sSet, xLst, aNil, maxLen]
  have c1 : fSeq (fCall m_reached_scenes (aCons (fVar 0) aNil)) [.va (eX n ss), .ow (.lst []), .no, .no, .no] row0 = some ((RR ss).map .int, row0) := by
    simp [fSeq, fCall, aCons, aNil, fVar, reached_eq k]
  show b_talks_that_come [.va (eX n ss), .no, .no, .no, .no] row0 = _
  unfold b_talks_that_come
  rw [sSeq_nx c0, sSeq_nx (by simp only [sFor, c1]; exact e)]
  simp [sFrz, eFrz, sRet, fVar, OwD.d, TT]
theorem speakers_eq (k : Ok n ss) : m_speakers [eX n ss] = some (.tuple ((setI ((TT ss).map (·.1))).map .int)) := by
  refine mkF_rt (x := row0) rfl ?_
  have c0 : compL (gtTup 3 (gtCons (gtName 1) (gtCons (gtName 2) (gtCons (gtName 2) gtNil)))) tYesF (fVar 1) [.va (eX n ss), .no, .no] ((TT ss).map eB) row0 = some ((TT ss).map fun b => .int b.1, row0) := by
    refine compL_map eB (fun b => .int b.1) (TT ss) fun b hb' => ⟨_, rfl, rfl, ?_⟩
    simp [fVar, gtName, gtTup, gtCons, gtNil, eB]
  have hl : ((TT ss).map (·.1)).length < 64 := by have := TT_len k; simp only [List.length_map]; omega
  have c1 : nSet (fSeq (fCall m_talks_that_come (aCons (fVar 0) aNil))) (gtTup 3 (gtCons (gtName 1) (gtCons (gtName 2) (gtCons (gtName 2) gtNil)))) tYesF (fVar 1) [1, 2] [.va (eX n ss), .no, .no] row0 = some ((TT ss).map (·.1), row0) := by
    have h1 : fSeq (fCall m_talks_that_come (aCons (fVar 0) aNil)) [.va (eX n ss), .no, .no] row0 = some ((TT ss).map eB, row0) := by simp [fSeq, fCall, aCons, aNil, fVar, ttc_eq k]
    have h2 : intsD ((TT ss).map fun b => .int b.1) = some ((TT ss).map (·.1)) := by
      rw [← intsD_map]; simp [Function.comp_def]
    rw [nSet, h1]
    simp only
    rw [show wipeE [.va (eX n ss), .no, .no] [1, 2] = [.va (eX n ss), .no, .no] from rfl, c0]
    simp only [h2, if_pos hl]
  show b_speakers [.va (eX n ss), .no, .no] row0 = _
  simp [b_speakers, sRet, fCall, aCons, aNil, fSrtS, c1, gTupOf]
theorem rg_map {n : Int} (h : 0 ≤ n) : rgD 0 n.toNat = ((List.range n.toNat).map fun (i : Nat) => (i : Int)).map D.int := by
  rw [rgD_map]; simp
theorem silent_eq (k : Ok n ss) : m_silent [eX n ss] = some (.tuple ((((List.range n.toNat).map fun (i : Nat) => (i : Int)).filter fun a => !decide (a ∈ (TT ss).flatMap fun t => [t.1, t.2.1])).map .int)) := by
  refine mkF_rt (x := row0) rfl ?_
  have key : ∀ (l : List Br) (acc : List Int) (p q r : FSl), acc.length + 2 * l.length ≤ 100 → ∃ p' q' r', forL (gtTup 3 (gtCons (gtName 2) (gtCons (gtName 3) (gtCons (gtName 4) gtNil)))) (sExt 1 (fLst (aCons (fVar 2) (aCons (fVar 3) aNil)))) (l.map eB) [.va (eX n ss), .ow (.lst (acc.map .int)), p, q, r, .no] row0 = some (.nx [.va (eX n ss), .ow (.lst ((acc ++ l.flatMap fun t => [t.1, t.2.1]).map .int)), p', q', r', .no], row0) := by
    intro l
    induction l with
    | nil => intro acc p q r _; exact ⟨p, q, r, by simp [forL]⟩
    | cons b l ih =>
      intro acc p q r hlen
      simp only [List.length_cons] at hlen
      obtain ⟨p', q', r', e⟩ := ih (acc ++ [b.1, b.2.1]) (.va (.int b.1)) (.va (.int b.2.1)) (.va (.int b.2.2)) (by simp only [List.length_append, List.length_cons, List.length_nil]; omega)
      refine ⟨p', q', r', ?_⟩
      have hle : (acc.map D.int).length + [D.int b.1, .int b.2.1].length ≤ maxLen := by simp only [List.length_map, List.length_cons, List.length_nil, maxLen]; omega
      have c1 : gtTup 3 (gtCons (gtName 2) (gtCons (gtName 3) (gtCons (gtName 4) gtNil))) (eB b) [.va (eX n ss), .ow (.lst (acc.map .int)), p, q, r, .no] = some [.va (eX n ss), .ow (.lst (acc.map .int)), .va (.int b.1), .va (.int b.2.1), .va (.int b.2.2), .no] := by
        simp [gtTup, gtCons, gtName, gtNil, eB]
      have c3 : fLst (aCons (fVar 2) (aCons (fVar 3) aNil)) [.va (eX n ss), .ow (.lst (acc.map .int)), .va (.int b.1), .va (.int b.2.1), .va (.int b.2.2), .no] row0 = some (.list [.int b.1, .int b.2.1], row0) := by
        simp [fLst, aCons, aNil, fVar, maxLen]
      have c2 : sExt 1 (fLst (aCons (fVar 2) (aCons (fVar 3) aNil))) [.va (eX n ss), .ow (.lst (acc.map .int)), .va (.int b.1), .va (.int b.2.1), .va (.int b.2.2), .no] row0 = some (.nx [.va (eX n ss), .ow (.lst ((acc ++ [b.1, b.2.1]).map .int)), .va (.int b.1), .va (.int b.2.1), .va (.int b.2.2), .no], row0) := by
        simp only [sExt, c3, List.getElem?_cons_succ, List.getElem?_cons_zero, if_pos hle]
        simp
      rw [List.map_cons, forL, c1]
      simp only [c2, e]
      simp
  obtain ⟨p', q', r', e⟩ := key (TT ss) [] .no .no .no (by have := TT_len k; simp; omega)
  have c0 : sSet 1 (xLst aNil) [.va (eX n ss), .no, .no, .no, .no, .no] row0 = some (.nx [.va (eX n ss), .ow (.lst []), .no, .no, .no, .no], row0) := by
    simp [sSet, xLst, aNil, maxLen]
  have c1 : fSeq (fCall m_talks_that_come (aCons (fVar 0) aNil)) [.va (eX n ss), .ow (.lst []), .no, .no, .no, .no] row0 = some ((TT ss).map eB, row0) := by
    simp [fSeq, fCall, aCons, aNil, fVar, ttc_eq k]
  show b_silent [.va (eX n ss), .no, .no, .no, .no, .no] row0 = _
  unfold b_silent
  rw [sSeq_nx c0, sSeq_nx (by simp only [sFor, c1]; exact e)]
  rw [List.nil_append]
  generalize (TT ss).flatMap (fun t => [t.1, t.2.1]) = busy
  have hn := k.n2
  have ho : okRg n = true := by simp only [okRg, decide_eq_true_eq]; omega
  have c2 : fOfX (xLc (fRg1 (fBin gAt (fBor 0) (fC (.int 0)))) (gtName 5) (fTst (fBin gNotInA (fBor 5) (fBor 1))) (fVar 5) [5]) [.va (eX n ss), .ow (.lst (busy.map .int)), p', q', r', .no] row0 = some (.list ((((List.range n.toNat).map fun (i : Nat) => (i : Int)).filter fun a => !decide (a ∈ busy)).map .int), row0) := by
    refine lc_eq (ds := ((List.range n.toNat).map fun (i : Nat) => (i : Int)).map D.int) ?_ (compL_gen D.int (fun a => !decide (a ∈ busy)) D.int _ fun u hu => ⟨_, rfl, ?_, fun _ => ?_⟩) ?_
    · rw [← rg_map (by omega)]; simp [fRg1, fBin, fBor, fC, eX_0, ho]
    · simp [fTst, fBin, fBor, wipeE, gtName, OwD.d, gNotInA, notin_ints]
    · simp [fVar, wipeE, gtName]
    · have := List.length_filter_le (fun a => !decide (a ∈ busy)) ((List.range n.toNat).map fun (i : Nat) => (i : Int))
      simp only [List.length_map, List.length_range] at this
      simp only [List.length_map, maxLen]; omega
  simp [sRet, fCall, aCons, aNil, c2, gTupOf]
end
end Lw

namespace Lw
open PySem RT
section
variable {n : Int} {ss : List Sc}
theorem brs_t (k : Ok n ss) {v : Int} (hv : 0 ≤ v ∧ v < ss.length) : ∀ b ∈ brs ss v, 0 ≤ b.2.2 ∧ b.2.2 < (ss.length : Int) := fun b hb => k.web.to v hv b.2.2 (List.mem_map.mpr ⟨b, hb, rfl⟩)
def hasR (ss : List Sc) : Bool := (OO ss 0).any fun v => (brs ss v).any fun b => decide (v ∈ OO ss b.2.2)
def allE (ss : List Sc) : Bool := (OO ss 0).all fun v => (OO ss v).any (isEnd ss)
theorem rounds_eq (k : Ok n ss) : m_has_rounds [eX n ss] = some (.bool (hasR ss)) := by
  have hR : ∀ env : FEn, (∃ p q r, env = [.va (eX n ss), .va (webD ss), p, q, r]) → (hasR ss = true → forL (gtName 2) (sFor (fSeq (fBin gAt (fBor 1) (fBor 2))) (gtTup 2 (gtCons (gtName 3) (gtCons (gtName 4) gtNil))) (sIf (fTst (fBin gInA (fBor 2) (fCall m_coming (aCons (fVar 1) (aCons (fVar 4) aNil))))) (sRet (fC (.bool true))) sNil)) ((OO ss 0).map .int) env row0 = some (.rt (.bool true), row0)) ∧ (hasR ss = false → ∃ e2, forL (gtName 2) (sFor (fSeq (fBin gAt (fBor 1) (fBor 2))) (gtTup 2 (gtCons (gtName 3) (gtCons (gtName 4) gtNil))) (sIf (fTst (fBin gInA (fBor 2) (fCall m_coming (aCons (fVar 1) (aCons (fVar 4) aNil))))) (sRet (fC (.bool true))) sNil)) ((OO ss 0).map .int) env row0 = some (.nx e2, row0) ∧ (∃ p q r, e2 = [.va (eX n ss), .va (webD ss), p, q, r])) := by
    intro env henv
    refine forL_find D.int (fun v => (brs ss v).any fun b => decide (v ∈ OO ss b.2.2)) (.bool true) (fun env => ∃ p q r, env = [.va (eX n ss), .va (webD ss), p, q, r]) (OO ss 0) env ?_ henv
    rintro v hv _ ⟨p, q, r, rfl⟩
    have hv' := OO_in k k.z v hv
    have c1 : fSeq (fBin gAt (fBor 1) (fBor 2)) [.va (eX n ss), .va (webD ss), .va (.int v), q, r] row0 = some ((brs ss v).map (eT (spk (scAt ss v))), row0) := by
      simp [fSeq, fBin, fBor, web_at hv'.1 hv'.2, tk_eq, brs]
    have inner := forL_find (gt := gtTup 2 (gtCons (gtName 3) (gtCons (gtName 4) gtNil))) (b := sIf (fTst (fBin gInA (fBor 2) (fCall m_coming (aCons (fVar 1) (aCons (fVar 4) aNil))))) (sRet (fC (.bool true))) sNil) (x := row0) (eT (spk (scAt ss v))) (fun b : Br => decide (v ∈ OO ss b.2.2)) (.bool true) (fun env => ∃ q r, env = [.va (eX n ss), .va (webD ss), .va (.int v), q, r]) (brs ss v) [.va (eX n ss), .va (webD ss), .va (.int v), q, r] (by
      rintro b hb _ ⟨q, r, rfl⟩
      have hb' := brs_t k hv' b hb
      have c2 : fTst (fBin gInA (fBor 2) (fCall m_coming (aCons (fVar 1) (aCons (fVar 4) aNil)))) [.va (eX n ss), .va (webD ss), .va (.int v), .va (.tuple [.int (spk (scAt ss v)), .int b.1, .int b.2.1]), .va (.int b.2.2)] row0 = some (decide (v ∈ OO ss b.2.2), row0) := by
        simp only [fTst, fBin, fBor, fCall, aCons, aNil, fVar, List.getElem?_cons_succ, List.getElem?_cons_zero, coming_eq k hb', gInA, in_ints]
      refine ⟨[.va (eX n ss), .va (webD ss), .va (.int v), .va (.tuple [.int (spk (scAt ss v)), .int b.1, .int b.2.1]), .va (.int b.2.2)], by simp [gtTup, gtCons, gtName, gtNil, eT], fun h => ?_, fun h => ⟨[.va (eX n ss), .va (webD ss), .va (.int v), .va (.tuple [.int (spk (scAt ss v)), .int b.1, .int b.2.1]), .va (.int b.2.2)], ?_, _, _, rfl⟩⟩
      · simp only [sIf, c2, h]; simp [sRet, fC]
      · simp only [sIf, c2, h]; simp [sNil]) ⟨q, r, rfl⟩
    refine ⟨[.va (eX n ss), .va (webD ss), .va (.int v), q, r], rfl, fun h => ?_, fun h => ?_⟩
    · simp only [sFor, c1]; exact inner.1 h
    · obtain ⟨e2, h1, q2, r2, h2⟩ := inner.2 h
      exact ⟨e2, by simp only [sFor, c1]; exact h1, _, q2, r2, h2⟩
  refine mkF_rt (x := row0) rfl ?_
  have c0 := drop_ok k (rest := [.no, .no, .no, .no])
  have c1 : sSet 1 (xVal (fCall m_talk_web (aCons (fVar 0) aNil))) [.va (eX n ss), .no, .no, .no, .no] row0 = some (.nx [.va (eX n ss), .va (webD ss), .no, .no, .no], row0) := by
    simp [sSet, xVal, fCall, aCons, aNil, fVar, talk_web_eq k]
  have c2 : fSeq (fCall m_coming (aCons (fVar 1) (aCons (fC (.int 0)) aNil))) [.va (eX n ss), .va (webD ss), .no, .no, .no] row0 = some ((OO ss 0).map .int, row0) := by
    simp [fSeq, fCall, aCons, aNil, fVar, fC, coming_eq k k.z]
  show b_has_rounds [.va (eX n ss), .no, .no, .no, .no] row0 = _
  unfold b_has_rounds
  rw [sSeq_nx c0, sSeq_nx c1]
  have hh := hR [.va (eX n ss), .va (webD ss), .no, .no, .no] ⟨_, _, _, rfl⟩
  cases hb : hasR ss with
  | true => simp only [sSeq, sFor, c2]; rw [hh.1 hb]
  | false =>
    obtain ⟨e2, h1, h2⟩ := hh.2 hb
    simp only [sSeq, sFor, c2]; rw [h1]; simp [sRet, fC]
theorem ends_eq (k : Ok n ss) : m_always_ends [eX n ss] = some (.bool (allE ss)) := by
  have hn : allE ss = !((OO ss 0).any fun v => !(OO ss v).any (isEnd ss)) := by
    unfold allE; rw [List.not_any_eq_all_not]; simp
  rw [hn]
  have hh := forL_find (gt := gtName 2) (b := sIf (tNotF (fTru (fCall gAny (aCons (fOfX (xLc (fSeq (fCall m_coming (aCons (fVar 1) (aCons (fVar 2) aNil)))) (gtName 3) tYesF (fBin gIsN (fBin gAt (fBin gAt (fBor 0) (fC (.int 1))) (fBor 3)) (fC .none)) [3])) aNil)))) (sRet (fC (.bool false))) sNil) (x := row0) D.int (fun v => !(OO ss v).any (isEnd ss)) (.bool false) (fun env => ∃ p, env = [.va (eX n ss), .va (webD ss), p, .no]) (OO ss 0) [.va (eX n ss), .va (webD ss), .no, .no] (by
    rintro v hv _ ⟨p, rfl⟩
    have hv' := OO_in k k.z v hv
    have c1 : fOfX (xLc (fSeq (fCall m_coming (aCons (fVar 1) (aCons (fVar 2) aNil)))) (gtName 3) tYesF (fBin gIsN (fBin gAt (fBin gAt (fBor 0) (fC (.int 1))) (fBor 3)) (fC .none)) [3]) [.va (eX n ss), .va (webD ss), .va (.int v), .no] row0 = some (.list ((OO ss v).map fun u => .bool (isEnd ss u)), row0) := by
      refine lc_eq (ds := (OO ss v).map .int) (by simp [fSeq, fCall, aCons, aNil, fVar, coming_eq k hv']) (compL_map D.int (fun u => .bool (isEnd ss u)) (OO ss v) fun u hu => ⟨_, rfl, rfl, ?_⟩) ?_
      · have hu' := OO_in k hv' u hu
        simp [fBin, fBor, fC, wipeE, gtName, eX_1, eX_at (n := n) hu'.1 hu'.2, none_eS, isEnd]
      · have := OO_len k hv'; simp only [List.length_map, maxLen]; omega
    have c2 : tNotF (fTru (fCall gAny (aCons (fOfX (xLc (fSeq (fCall m_coming (aCons (fVar 1) (aCons (fVar 2) aNil)))) (gtName 3) tYesF (fBin gIsN (fBin gAt (fBin gAt (fBor 0) (fC (.int 1))) (fBor 3)) (fC .none)) [3])) aNil))) [.va (eX n ss), .va (webD ss), .va (.int v), .no] row0 = some (!(OO ss v).any (isEnd ss), row0) := by
      simp only [tNotF, fTru, fCall, aCons, aNil, c1, gAny, bools_map, truD]
      simp [List.any_map, Function.comp_def]
    refine ⟨[.va (eX n ss), .va (webD ss), .va (.int v), .no], rfl, fun h => ?_, fun h => ⟨[.va (eX n ss), .va (webD ss), .va (.int v), .no], ?_, _, rfl⟩⟩
    · simp only [sIf, c2, h]; simp [sRet, fC]
    · simp only [sIf, c2, h]; simp [sNil]) ⟨_, rfl⟩
  refine mkF_rt (x := row0) rfl ?_
  have c0 := drop_ok k (rest := [.no, .no, .no])
  have c1 : sSet 1 (xVal (fCall m_talk_web (aCons (fVar 0) aNil))) [.va (eX n ss), .no, .no, .no] row0 = some (.nx [.va (eX n ss), .va (webD ss), .no, .no], row0) := by
    simp [sSet, xVal, fCall, aCons, aNil, fVar, talk_web_eq k]
  have c2 : fSeq (fCall m_coming (aCons (fVar 1) (aCons (fC (.int 0)) aNil))) [.va (eX n ss), .va (webD ss), .no, .no] row0 = some ((OO ss 0).map .int, row0) := by
    simp [fSeq, fCall, aCons, aNil, fVar, fC, coming_eq k k.z]
  show b_always_ends [.va (eX n ss), .no, .no, .no] row0 = _
  unfold b_always_ends
  rw [sSeq_nx c0, sSeq_nx c1]
  cases hb : (OO ss 0).any fun v => !(OO ss v).any (isEnd ss) with
  | true => simp only [sSeq, sFor, c2]; rw [hh.1 hb]; rfl
  | false =>
    obtain ⟨e2, h1, h2⟩ := hh.2 hb
    simp only [sSeq, sFor, c2]; rw [h1]; simp [sRet, fC]
end
/-- names -/
def nmD (l : List (Int × Nat)) : List (D × D) := l.map fun p => (D.int p.1, D.int (p.2 : Int))
theorem nm_any (t : Int) (l : List (Int × Nat)) : ((nmD l).any fun p => decide (dKey p.1 = some (.inl t))) = decide (t ∈ l.map (·.1)) := by
  induction l with
  | nil => rfl
  | cons a l ih =>
    have : nmD (a :: l) = (D.int a.1, D.int (a.2 : Int)) :: nmD l := rfl
    rw [this, List.any_cons, ih]
    simp only [dKey, List.map_cons, List.mem_cons, Option.some.injEq, Sum.inl.injEq]
    by_cases h : a.1 = t
    · simp [h]
    · have : ¬ t = a.1 := fun h2 => h h2.symm
      simp [h, this]
theorem nm_dc {env : FEn} (he : ∀ p : Int × Nat, gtTup 2 (gtCons (gtName 1) (gtCons (gtName 2) gtNil)) (.tuple [.int (p.2 : Int), .int p.1]) env = some [.va (.list []), .va (.int (p.2 : Int)), .va (.int p.1)] ∨ ∃ d, gtTup 2 (gtCons (gtName 1) (gtCons (gtName 2) gtNil)) (.tuple [.int (p.2 : Int), .int p.1]) env = some [d, .va (.int (p.2 : Int)), .va (.int p.1)]) : ∀ (l acc : List (Int × Nat)), ((acc ++ l).map (·.1)).Nodup → (acc ++ l).length ≤ 100 → dcL (gtTup 2 (gtCons (gtName 1) (gtCons (gtName 2) gtNil))) tYesF (fVar 2) (fVar 1) env (l.map fun p => .tuple [.int (p.2 : Int), .int p.1]) (nmD acc) row0 = some (nmD (acc ++ l), row0)
  | [], acc, _, _ => by simp [dcL]
  | p :: l, acc, h, hl => by
    have ih := nm_dc he l (acc ++ [p]) (by simpa using h) (by simpa using hl)
    have hno : ¬ p.1 ∈ acc.map (·.1) := by
      intro hm
      rw [List.map_append, List.nodup_append] at h
      exact h.2.2 p.1 hm p.1 (by simp) rfl
    have hp : putD dKey (nmD acc) (.int p.1) (.inl p.1) (.int (p.2 : Int)) = nmD (acc ++ [p]) := by
      unfold putD
      rw [nm_any, if_neg (by simpa using hno)]
      simp [nmD]
    have hle : (nmD acc).length < maxLen := by simp only [List.length_append, List.length_cons] at hl; simp only [nmD, List.length_map, maxLen]; omega
    have hd : ∃ d, gtTup 2 (gtCons (gtName 1) (gtCons (gtName 2) gtNil)) (.tuple [.int (p.2 : Int), .int p.1]) env = some [d, .va (.int (p.2 : Int)), .va (.int p.1)] := by
      rcases he p with h | h
      · exact ⟨_, h⟩
      · exact h
    obtain ⟨d, hd⟩ := hd
    rw [List.map_cons, dcL, hd]
    simp only [tYesF, fVar, List.getElem?_cons_succ, List.getElem?_cons_zero, dKey, if_pos hle, hp, ih]
    simp
theorem names_eq {O : List Int} (hn : O.Nodup) (hl : O.length ≤ 90) : m_new_names [.list (O.map .int)] = some (.dict (nmD O.zipIdx)) := by
  refine mkF_rt (x := row0) rfl ?_
  have c1 : fEn (fVar 0) [.va (.list (O.map .int)), .no, .no] row0 = some (O.zipIdx.map (fun p => .tuple [.int (p.2 : Int), .int p.1]), row0) := by
    simp only [fEn, fVar]; rw [← enD_map]; rfl
  have c2 := nm_dc (env := [.va (.list (O.map .int)), .no, .no]) (fun p => Or.inr ⟨_, rfl⟩) O.zipIdx [] (by simpa using hn) (by simp; omega)
  have c3 : xDc (fEn (fVar 0)) (gtTup 2 (gtCons (gtName 1) (gtCons (gtName 2) gtNil))) tYesF (fVar 2) (fVar 1) [1, 2] [.va (.list (O.map .int)), .no, .no] row0 = some (.ow (.dk (nmD O.zipIdx)), row0) := by
    rw [xDc, c1]
    simp only
    rw [show wipeE [.va (.list (O.map .int)), .no, .no] [1, 2] = [.va (.list (O.map .int)), .no, .no] from rfl]
    rw [show ([] : List (D × D)) = nmD [] from rfl, c2]
    simp
  show b_new_names [.va (.list (O.map .int)), .no, .no] row0 = _
  simp [b_new_names, sRet, fOfX, c3, OwD.d]
theorem nm_val (t : Int) : ∀ (O : List Int) (j : Nat), t ∈ O → valD dKey (nmD (O.zipIdx j)) (.inl t) = some (.int ((j + O.idxOf t : Nat) : Int))
  | [], _, h => by simp at h
  | a :: O, j, h => by
    have e : nmD ((a :: O).zipIdx j) = (D.int a, D.int (j : Int)) :: nmD (O.zipIdx (j + 1)) := by simp [nmD]
    rw [e]
    by_cases c : a = t
    · subst c
      simp [valD, dKey]
    · have ht : t ∈ O := by
        rcases List.mem_cons.mp h with h | h
        · exact absurd h.symm c
        · exact h
      have ih := nm_val t O (j + 1) ht
      have hi : (a :: O).idxOf t = O.idxOf t + 1 := by
        have hbe : (a == t) = false := by simp [c]
        simp [List.idxOf_cons, hbe]
      rw [hi]
      unfold valD at ih ⊢
      rw [List.find?_cons_of_neg (by simp [dKey, c]), ih]
      congr 2; omega
theorem nm_at {t : Int} {O : List Int} (h : t ∈ O) : gAt (.dict (nmD O.zipIdx)) (.int t) = some (.int (Bf.idx O t)) := by
  simp only [gAt, gDAt, gDGet, dKey, nm_val t O 0 h]
  simp [Bf.idx]
def rn (O : List Int) : Sc → Sc
  | none => none
  | some (s, bs) => some (s, bs.map fun b => (b.1, b.2.1, Bf.idx O b.2.2))
theorem renamed_eq {O : List Int} {sc : Sc} (h2 : (bsOf sc).length ≤ 2) (h : ∀ b ∈ bsOf sc, b.2.2 ∈ O) : m_renamed_scene [eS sc, .dict (nmD O.zipIdx)] = some (eS (rn O sc)) := by
  cases sc with
  | none =>
    refine mkF_rt (x := row0) rfl ?_
    simp [b_renamed_scene, sSeq, sIf, fTst, fBin, fBor, fC, gIsN, isNoneD, sRet, startE, eS, rn]
  | some p =>
    obtain ⟨s, bs⟩ := p
    simp only [bsOf] at h2 h
    refine mkF_rt (x := row0) rfl ?_
    generalize hN : D.dict (nmD O.zipIdx) = N
    have c1 : fOfX (xLc (fSeq (fVar 3)) (gtTup 3 (gtCons (gtName 4) (gtCons (gtName 5) (gtCons (gtName 6) gtNil)))) tYesF (fTup (aCons (fVar 4) (aCons (fVar 5) (aCons (fBin gAt (fBor 1) (fBor 6)) aNil)))) [4, 5, 6]) [.va (eS (some (s, bs))), .va N, .va (.int s), .va (.tuple (bs.map eB)), .no, .no, .no] row0 = some (.list (bs.map fun b => eB (b.1, b.2.1, Bf.idx O b.2.2)), row0) := by
      refine lc_eq (ds := bs.map eB) (by simp [fSeq, fVar]) (compL_map eB _ bs fun b hb' => ⟨_, rfl, rfl, ?_⟩) ?_
      · have := nm_at (h b hb')
        rw [hN] at this
        simp [fTup, aCons, aNil, fVar, fBin, fBor, wipeE, gtName, eB, maxLen, this]
      · simp only [List.length_map, maxLen]; omega
    have c2 : fTst (fBin gIsN (fBor 0) (fC .none)) [.va (eS (some (s, bs))), .va N, .no, .no, .no, .no, .no] row0 = some (false, row0) := by
      simp [fTst, fBin, fBor, fC, gIsN, isNoneD, eS]
    have c3 : sUnp (fVar 0) (gtTup 2 (gtCons (gtName 2) (gtCons (gtName 3) gtNil))) [.va (eS (some (s, bs))), .va N, .no, .no, .no, .no, .no] row0 = some (.nx [.va (eS (some (s, bs))), .va N, .va (.int s), .va (.tuple (bs.map eB)), .no, .no, .no], row0) := by
      simp [sUnp, fVar, gtTup, gtCons, gtName, gtNil, eS]
    show b_renamed_scene [.va (eS (some (s, bs))), .va N, .no, .no, .no, .no, .no] row0 = _
    simp only [b_renamed_scene, sSeq, sIf, c2, sNil, c3, sRet]
    simp [fTup, aCons, aNil, fVar, fCall, c1, gTupOf, maxLen]
    simp [eS, rn, Function.comp_def]
def trim (ss : List Sc) : List Sc := (OO ss 0).map fun v => rn (OO ss 0) (scAt ss v)
section
variable {n : Int} {ss : List Sc}
theorem O_to (k : Ok n ss) {v : Int} (hv : v ∈ OO ss 0) : ∀ b ∈ bsOf (scAt ss v), b.2.2 ∈ OO ss 0 := fun b hb => Bf.ord_go k.web k.z hv (List.mem_map.mpr ⟨b, hb, rfl⟩)
theorem trimmed_eq (k : Ok n ss) : m_trimmed [eX n ss] = some (eX n (trim ss)) := by
  refine mkF_rt (x := row0) rfl ?_
  have c0 := drop_ok k (rest := [.no, .no, .no, .no, .no])
  have hnm := names_eq (O := OO ss 0) Bf.ord_nd (by have := OO_len k k.z; omega)
  have hr : ∀ v ∈ OO ss 0, m_renamed_scene [eS (scAt ss v), .dict (nmD (OO ss 0).zipIdx)] = some (eS (rn (OO ss 0) (scAt ss v))) := fun v hv => renamed_eq (k.bsl (scAt_mem (OO_in k k.z v hv).1 (OO_in k k.z v hv).2).2) (O_to k hv)
  generalize hN : D.dict (nmD (OO ss 0).zipIdx) = N at hnm hr
  have c1 : sUnp (fVar 0) (gtTup 2 (gtCons (gtName 1) (gtCons (gtName 2) gtNil))) [.va (eX n ss), .no, .no, .no, .no, .no] row0 = some (.nx [.va (eX n ss), .va (.int n), .va (.tuple (ss.map eS)), .no, .no, .no], row0) := by
    simp [sUnp, fVar, gtTup, gtCons, gtName, gtNil, eX]
  have c2 : sSet 3 (xVal (fCall m_coming (aCons (fCall m_talk_web (aCons (fVar 0) aNil)) (aCons (fC (.int 0)) aNil)))) [.va (eX n ss), .va (.int n), .va (.tuple (ss.map eS)), .no, .no, .no] row0 = some (.nx [.va (eX n ss), .va (.int n), .va (.tuple (ss.map eS)), .va (.list ((OO ss 0).map .int)), .no, .no], row0) := by
    simp [sSet, xVal, fCall, aCons, aNil, fVar, fC, talk_web_eq k, coming_eq k k.z]
  have c3 : sSet 4 (xVal (fCall m_new_names (aCons (fVar 3) aNil))) [.va (eX n ss), .va (.int n), .va (.tuple (ss.map eS)), .va (.list ((OO ss 0).map .int)), .no, .no] row0 = some (.nx [.va (eX n ss), .va (.int n), .va (.tuple (ss.map eS)), .va (.list ((OO ss 0).map .int)), .va N, .no], row0) := by
    simp [sSet, xVal, fCall, aCons, aNil, fVar, hnm]
  have c4 : fOfX (xLc (fSeq (fVar 3)) (gtName 5) tYesF (fCall m_renamed_scene (aCons (fBin gAt (fBor 2) (fBor 5)) (aCons (fVar 4) aNil))) [5]) [.va (eX n ss), .va (.int n), .va (.tuple (ss.map eS)), .va (.list ((OO ss 0).map .int)), .va N, .no] row0 = some (.list ((OO ss 0).map fun v => eS (rn (OO ss 0) (scAt ss v))), row0) := by
    refine lc_eq (ds := (OO ss 0).map .int) (by simp [fSeq, fVar]) (compL_map D.int _ (OO ss 0) fun v hv => ⟨_, rfl, rfl, ?_⟩) ?_
    · have hv' := OO_in k k.z v hv
      simp [fCall, aCons, aNil, fBin, fBor, fVar, wipeE, gtName, eX_at (n := n) hv'.1 hv'.2, hr v hv]
    · have := OO_len k k.z; simp only [List.length_map, maxLen]; omega
  show b_trimmed [.va (eX n ss), .no, .no, .no, .no, .no] row0 = _
  unfold b_trimmed
  rw [sSeq_nx c0, sSeq_nx c1, sSeq_nx c2, sSeq_nx c3]
  simp [sRet, fTup, fCall, aCons, aNil, fVar, c4, gTupOf, maxLen]
  simp [eX, trim, Function.comp_def]
end
end Lw

namespace Lw
open PySem RT
section
variable {n : Int} {ss : List Sc}
theorem trim_len : (trim ss).length = (OO ss 0).length := by simp [trim]
theorem Two.map {bs : List Br} (O : List Int) (h : Two bs) : Two (bs.map fun b => (b.1, b.2.1, Bf.idx O b.2.2)) := by
  rcases h with ⟨b, rfl⟩ | ⟨b, c, rfl, h⟩
  · exact Or.inl ⟨_, rfl⟩
  · exact Or.inr ⟨_, _, rfl, h⟩
theorem trim_ok (k : Ok n ss) : Ok n (trim ss) where
  n2 := k.n2
  m := by
    rw [trim_len]
    have h0 : (0 : Int) ∈ OO ss 0 := Bf.ord_self
    have := List.length_pos_of_mem h0
    have := OO_len k k.z
    omega
  sc := by
    intro s bs h
    obtain ⟨v, hv, e⟩ := List.mem_map.mp h
    have hv' := OO_in k k.z v hv
    have hm := (scAt_mem hv'.1 hv'.2).2
    have hto := O_to k hv
    cases c : scAt ss v with
    | none => rw [c] at e; simp [rn] at e
    | some p =>
      obtain ⟨s0, bs0⟩ := p
      rw [c] at e hm hto
      simp only [rn, Option.some.injEq, Prod.mk.injEq] at e
      obtain ⟨rfl, rfl⟩ := e
      obtain ⟨h1, h2, h3⟩ := k.sc s0 bs0 hm
      refine ⟨h1, h2.map _, ?_⟩
      intro b hb
      obtain ⟨b0, hb0, rfl⟩ := List.mem_map.mp hb
      have q := h3 b0 hb0
      refine ⟨q.h, q.ne, q.w, ?_⟩
      rw [trim_len]
      exact Bf.idx_lt (hto b0 hb0)
theorem scAt_trim {u : Int} (hu : u ∈ OO ss 0) : scAt (trim ss) (Bf.idx (OO ss 0) u) = rn (OO ss 0) (scAt ss u) := by
  have h1 := List.idxOf_lt_length_of_mem hu
  have h2 := List.getElem_idxOf h1
  have : (trim ss)[(Bf.idx (OO ss 0) u).toNat]? = some (rn (OO ss 0) (scAt ss u)) := by
    unfold trim Bf.idx
    rw [Int.toNat_natCast, List.getElem?_map, List.getElem?_eq_getElem h1, h2]
    rfl
  unfold scAt at this ⊢
  rw [this]
theorem bsOf_rn (O : List Int) (sc : Sc) : (bsOf (rn O sc)).map (·.2.2) = ((bsOf sc).map (·.2.2)).map (Bf.idx O) := by
  cases sc with
  | none => rfl
  | some p => simp [rn, bsOf]
theorem OO_head : ∃ r, OO ss 0 = 0 :: r := by
  obtain ⟨r, h⟩ := Bf.bf_le (G := GG ss) (v := 0) (Nat.zero_le 8)
  exact ⟨r, by unfold OO Bf.ord; rw [← h]; rfl⟩
theorem OO_trim (k : Ok n ss) : OO (trim ss) 0 = (OO ss 0).map (Bf.idx (OO ss 0)) := by
  have e0 : Bf.idx (OO ss 0) 0 = 0 := by
    obtain ⟨r, h⟩ := OO_head (ss := ss)
    rw [h]; simp [Bf.idx]
  have := Bf.bf_map (G := GG ss) (G' := GG (trim ss)) (v := 0) (f := Bf.idx (OO ss 0)) (S := fun u => u ∈ OO ss 0) (fun a b ha hb h => Bf.idx_inj ha hb h) Bf.ord_self (fun u hu t ht => Bf.ord_go k.web k.z hu ht) (fun u hu => by
    show (bsOf (scAt (trim ss) _)).map (·.2.2) = _
    rw [scAt_trim hu, bsOf_rn]; rfl) 8
  rw [e0] at this
  exact this
theorem idx_idx (k : Ok n ss) {t : Int} (ht : t ∈ OO ss 0) : Bf.idx (OO (trim ss) 0) (Bf.idx (OO ss 0) t) = Bf.idx (OO ss 0) t := by
  have hnd : (OO (trim ss) 0).Nodup := Bf.ord_nd
  have h1 := List.idxOf_lt_length_of_mem ht
  have h2 : (OO ss 0).idxOf t < (OO (trim ss) 0).length := by rw [OO_trim k, List.length_map]; exact h1
  have h3 : (OO (trim ss) 0)[(OO ss 0).idxOf t] = Bf.idx (OO ss 0) t := by
    have e := OO_trim k
    have : (OO (trim ss) 0)[(OO ss 0).idxOf t]? = some (Bf.idx (OO ss 0) t) := by
      rw [e, List.getElem?_map, List.getElem?_eq_getElem h1, List.getElem_idxOf h1]; rfl
    rw [List.getElem?_eq_getElem h2] at this
    simpa using this
  have h4 := Bf.idx_at hnd h2
  rw [h3] at h4
  rw [h4]; rfl
theorem trim_def (ss : List Sc) : trim ss = (OO ss 0).map fun v => rn (OO ss 0) (scAt ss v) := rfl
theorem map_eq {l l' : List Int} (h : l = l') (f : Int → Sc) : l.map f = l'.map f := by rw [h]
theorem trim_trim (k : Ok n ss) : trim (trim ss) = trim ss := by
  have e := map_eq (OO_trim k) (fun v => rn (OO (trim ss) 0) (scAt (trim ss) v))
  rw [trim_def (trim ss)]
  refine e.trans ?_
  rw [List.map_map]
  refine Eq.trans ?_ (trim_def ss).symm
  refine List.map_congr_left fun u hu => ?_
  simp only [Function.comp]
  rw [scAt_trim hu]
  have hto := O_to k hu
  cases c : scAt ss u with
  | none => simp only [rn]
  | some p =>
    obtain ⟨s0, bs0⟩ := p
    rw [c] at hto
    simp only [rn, List.map_map, Option.some.injEq, Prod.mk.injEq, true_and]
    refine List.map_congr_left fun b hb => ?_
    simp only [Function.comp]
    rw [idx_idx k (hto b hb)]
/-- the script is plain data -/
theorem P0i (i : Int) : P0 (.int i) := Or.inr (Or.inl ⟨i, rfl⟩)
theorem pt_ints {l : List Int} (h : l.length ≤ 1000) : Pt 1 (.tuple (l.map .int)) := by
  refine Or.inr ⟨_, Or.inl rfl, by simpa using h, ?_⟩
  intro e he
  obtain ⟨i, _, rfl⟩ := List.mem_map.mp he
  exact P0i i
theorem pt_eX (k : Ok n ss) : Pt 5 (eX n ss) := by
  have hm := k.m
  have b1 : ∀ b : Br, Pt 1 (eB b) := fun b => Or.inr ⟨_, Or.inl rfl, by simp, by
    intro e he
    simp only [List.mem_cons, List.not_mem_nil, or_false] at he
    rcases he with rfl | rfl | rfl <;> exact P0i _⟩
  have s1 : ∀ sc ∈ ss, Pt 3 (eS sc) := by
    intro sc hsc
    have hb := k.bsl hsc
    cases sc with
    | none => exact Or.inl (Or.inl rfl)
    | some p =>
      obtain ⟨s, bs⟩ := p
      simp only [bsOf] at hb
      have hbs : Pt 2 (.tuple (bs.map eB)) := by
        refine Or.inr ⟨_, Or.inl rfl, by simp; omega, ?_⟩
        intro e he
        obtain ⟨b, _, rfl⟩ := List.mem_map.mp he
        exact b1 b
      refine Or.inr ⟨_, Or.inl rfl, by simp, ?_⟩
      intro e he
      simp only [List.mem_cons, List.not_mem_nil, or_false] at he
      rcases he with rfl | rfl
      · exact Pt.le (k := 0) (P0i s) (by omega)
      · exact hbs
  have x1 : Pt 4 (.tuple (ss.map eS)) := by
    refine Or.inr ⟨_, Or.inl rfl, by simp; omega, ?_⟩
    intro e he
    obtain ⟨sc, hsc, rfl⟩ := List.mem_map.mp he
    exact s1 sc hsc
  refine Or.inr ⟨_, Or.inl rfl, by simp, ?_⟩
  intro e he
  simp only [List.mem_cons, List.not_mem_nil, or_false] at he
  rcases he with rfl | rfl
  · exact Pt.le (k := 0) (P0i n) (by omega)
  · exact x1
theorem alike9 {d : D} (h : Pt 5 d) : m_law_alike 9 [d, d] = some (.bool true) := alike_ok 8 (h.le (by omega))
end
end Lw

namespace Lw
open PySem RT
theorem taken_ok {x : FRow} {many : Int} (ha : 0 ≤ x.a) (hm : 0 < many) (hs : many < 1073741824) : ∃ r x', m_law_taken [.int many] x = some (.int r, x') ∧ 0 ≤ r ∧ r < many ∧ 0 ≤ x'.a := by
  obtain ⟨ns, a, b, c⟩ := x
  simp only at ha
  have hmod : ∀ z : Int, 0 ≤ z % many ∧ z % many < many := fun z => ⟨Int.emod_nonneg _ (by omega), Int.emod_lt_of_pos _ hm⟩
  simp only [m_law_taken, mkR, startE, b_law_taken]
  by_cases hc : 0 < c
  · refine ⟨c % many, ⟨ns, a, b, c / many⟩, ?_, (hmod c).1, (hmod c).2, ha⟩
    simp [sSeq, sIf, sSet, sRow, sRet, sNil, sAug, fTst, fBin, fRow, fC, fCall, fRowLen, fRowAt, fVar, fBor, xVal, aCons, aNil, gI, gInt, gOr, gAdd, gMul, gAddI, gMulI, pMod, pDiv, pMul, hc, hm, hs]
  · by_cases hl : (ns.length : Int) < a + 1
    · refine ⟨((b * 48271 + 11) % 2147483647 / 7) % many, ⟨ns, a + 1, (b * 48271 + 11) % 2147483647, c⟩, ?_, (hmod _).1, (hmod _).2, by simp only; omega⟩
      simp [sSeq, sIf, sSet, sRow, sRet, sNil, sAug, fTst, fBin, fRow, fC, fCall, fRowLen, fRowAt, fVar, fBor, xVal, aCons, aNil, gI, gInt, gOr, gAdd, gMul, gAddI, gMulI, pMod, pDiv, pMul, hc, hm, hs, hl]
    · have hlt : a.toNat < ns.length := by omega
      have hat : L2.atI ns a = some ns[a.toNat] := atI_int ha (List.getElem?_eq_getElem hlt)
      generalize ns[a.toNat] = f at hat
      by_cases hf : (1000000000000000000 : Int) ≤ f
      · refine ⟨f % many, ⟨ns, a + 1, (b * 48271 + f + 11) % 2147483647, f / many⟩, ?_, (hmod _).1, (hmod _).2, by simp only; omega⟩
        simp [sSeq, sIf, sSet, sRow, sRet, sNil, sAug, fTst, fBin, fRow, fC, fCall, fRowLen, fRowAt, fVar, fBor, xVal, aCons, aNil, gI, gInt, gOr, gAdd, gMul, gAddI, gMulI, pMod, pDiv, pMul, pPow, hc, hm, hs, hl, hat, hf]
      · refine ⟨f % many, ⟨ns, a + 1, (b * 48271 + f + 11) % 2147483647, c⟩, ?_, (hmod _).1, (hmod _).2, by simp only; omega⟩
        simp [sSeq, sIf, sSet, sRow, sRet, sNil, sAug, fTst, fBin, fRow, fC, fCall, fRowLen, fRowAt, fVar, fBor, xVal, aCons, aNil, gI, gInt, gOr, gAdd, gMul, gAddI, gMulI, pMod, pDiv, pMul, pPow, hc, hm, hs, hl, hat, hf]
def kB (b : Br) : D := .tuple [.int b.1, .int b.2.1]
def hd (acc : List Br) : List (D × D) := acc.map fun b => (kB b, .int b.2.2)
theorem kB_key (b : Br) : dKeyT (kB b) = some [.inl b.1, .inl b.2.1] := by simp [kB, dKeyT, dKeys, dKey]
theorem put0 (b : Br) : putD dKeyT (hd []) (kB b) [.inl b.1, .inl b.2.1] (.int b.2.2) = hd [b] := by
  simp [putD, hd]
theorem put1 (a b : Br) : ∃ acc : List Br, putD dKeyT (hd [a]) (kB b) [.inl b.1, .inl b.2.1] (.int b.2.2) = hd acc ∧ ((acc = [(a.1, a.2.1, b.2.2)] ∧ a.1 = b.1 ∧ a.2.1 = b.2.1) ∨ (acc = [a, b] ∧ ¬ (a.1 = b.1 ∧ a.2.1 = b.2.1))) := by
  by_cases c : a.1 = b.1 ∧ a.2.1 = b.2.1
  · refine ⟨[(a.1, a.2.1, b.2.2)], ?_, Or.inl ⟨rfl, c⟩⟩
    simp [putD, hd, kB, dKeyT, dKeys, dKey, c.1, c.2]
  · refine ⟨[a, b], ?_, Or.inr ⟨rfl, c⟩⟩
    have : ¬ (a.1 = b.1 ∧ a.2.1 = b.2.1) := c
    simp [putD, hd, kB, dKeyT, dKeys, dKey, this]
/-- a drawn branch -/
structure Dr (n : Int) (m : Nat) (s : Int) (b : Br) : Prop extends OkB n m s b where
  w2 : b.2.1 < 2
abbrev bTurn : FS := sSeq (sSet 8 (xVal (fBin gModI (fCall gInt (aCons (fBin gAdd (fBin gAdd (fBor 5) (fC (.int 1))) (fCallR 0 m_law_taken (aCons (fBin gSubI (fBor 1) (fC (.int 1))) aNil))) aNil)) (fBor 1))))
    (sSeq (sSet 9 (xVal (fIf (fTru (fBor 4)) (fCallR 0 m_law_taken (aCons (fBin gAdd (fBor 3) (fC (.int 1))) aNil)) (fBin gAdd (fBin gAdd (fBor 2) (fC (.int 1))) (fCallR 0 m_law_taken (aCons (fBin gSubI (fBor 3) (fBor 2)) aNil))))))
    (sDPut 6 (fTup (aCons (fVar 8) (aCons (fCallR 0 m_law_taken (aCons (fC (.int 2)) aNil)) aNil))) (fVar 9)))
theorem other_mod {n s r : Int} (hn : 2 ≤ n ∧ n ≤ 4) (hs : 0 ≤ s ∧ s < n) (hr : 0 ≤ r ∧ r < n - 1) : 0 ≤ (s + 1 + r) % n ∧ (s + 1 + r) % n < n ∧ (s + 1 + r) % n ≠ s := by
  have : n = 2 ∨ n = 3 ∨ n = 4 := by omega
  rcases this with rfl | rfl | rfl <;> omega
def scE (n at' size : Int) (lp : Bool) (s : Int) (acc : List Br) (p q r : FSl) : FEn := [.rw, .va (.int n), .va (.int at'), .va (.int size), .va (.bool lp), .va (.int s), .ow (.dt (hd acc)), p, q, r, .no]
theorem turn_ok {n at' s : Int} {size : Nat} {lp : Bool} (hn : 2 ≤ n ∧ n ≤ 4) (hs : 0 ≤ s ∧ s < n) (hz : 1 ≤ size ∧ size ≤ 6) (ha : 0 ≤ at' ∧ at' < size) (acc : List Br) (hacc : acc.length ≤ 2) (p q r : FSl) {x : FRow} (hx : 0 ≤ x.a) :
    ∃ (b : Br) (x' : FRow) (q' r' : FSl), bTurn (scE n at' size lp s acc p q r) x = some (.nx [.rw, .va (.int n), .va (.int at'), .va (.int size), .va (.bool lp), .va (.int s), .ow (.dt (putD dKeyT (hd acc) (kB b) [.inl b.1, .inl b.2.1] (.int b.2.2))), p, q', r', .no], x') ∧ 0 ≤ x'.a ∧ Dr n (size + 1) s b := by
  obtain ⟨r1, x1, h1, h1a, h1b, hx1⟩ := taken_ok (many := n - 1) hx (by omega) (by omega)
  have ho := other_mod hn hs ⟨h1a, h1b⟩
  have c1 : sSet 8 (xVal (fBin gModI (fCall gInt (aCons (fBin gAdd (fBin gAdd (fBor 5) (fC (.int 1))) (fCallR 0 m_law_taken (aCons (fBin gSubI (fBor 1) (fC (.int 1))) aNil))) aNil)) (fBor 1))) (scE n at' size lp s acc p q r) x = some (.nx (scE n at' size lp s acc p (.va (.int ((s + 1 + r1) % n))) r), x1) := by
    have : 0 < n := by omega
    simp [sSet, xVal, fBin, fCall, aCons, aNil, fBor, fC, fCallR, gAdd, gOr, gI, gInt, pMod, scE, h1, this]
  have ht : ∃ (t : Int) (x2 : FRow), sSet 9 (xVal (fIf (fTru (fBor 4)) (fCallR 0 m_law_taken (aCons (fBin gAdd (fBor 3) (fC (.int 1))) aNil)) (fBin gAdd (fBin gAdd (fBor 2) (fC (.int 1))) (fCallR 0 m_law_taken (aCons (fBin gSubI (fBor 3) (fBor 2)) aNil))))) (scE n at' size lp s acc p (.va (.int ((s + 1 + r1) % n))) r) x1 = some (.nx (scE n at' size lp s acc p (.va (.int ((s + 1 + r1) % n))) (.va (.int t))), x2) ∧ (0 ≤ t ∧ t < ((size + 1 : Nat) : Int)) ∧ 0 ≤ x2.a := by
    cases lp with
    | true =>
      obtain ⟨t, x2, h2, h2a, h2b, hx2⟩ := taken_ok (many := (size : Int) + 1) hx1 (by omega) (by omega)
      refine ⟨t, x2, ?_, ⟨h2a, by omega⟩, hx2⟩
      simp [sSet, xVal, fIf, fTru, truD, fBin, aCons, aNil, fBor, fC, fCallR, gAdd, gOr, gI, scE, h2]
    | false =>
      obtain ⟨t, x2, h2, h2a, h2b, hx2⟩ := taken_ok (many := (size : Int) - at') hx1 (by omega) (by omega)
      refine ⟨at' + 1 + t, x2, ?_, ⟨by omega, by omega⟩, hx2⟩
      simp [sSet, xVal, fIf, fTru, truD, fBin, aCons, aNil, fBor, fC, fCallR, gAdd, gOr, gI, scE, h2]
  obtain ⟨t, x2, c2, ht, hx2⟩ := ht
  obtain ⟨w, x3, h3, h3a, h3b, hx3⟩ := taken_ok (many := 2) hx2 (by omega) (by omega)
  refine ⟨((s + 1 + r1) % n, w, t), x3, .va (.int ((s + 1 + r1) % n)), .va (.int t), ?_, hx3, ⟨⟨⟨ho.1, ho.2.1⟩, ho.2.2, ⟨h3a, by simp only; omega⟩, ht⟩, h3b⟩⟩
  have hle : (hd acc).length < maxLen := by simp only [hd, List.length_map, maxLen]; omega
  have hk := kB_key ((s + 1 + r1) % n, w, t)
  simp only [kB] at hk
  unfold bTurn
  rw [sSeq_nx c1, sSeq_nx c2]
  simp only [maxLen] at hle
  simp [sDPut, fTup, aCons, aNil, fVar, fC, fCallR, scE, h3, hk, hle, kB, maxLen]
theorem Dr.tup {n : Int} {m : Nat} {s : Int} {b : Br} (hn : n ≤ 4) (hm : m ≤ 8) (h : Dr n m s b) : okTup 3 [b.1, b.2.1, b.2.2] = true := by
  have h1 := h.h; have h2 := h.w; have h3 := h.t; have h4 := h.w2
  simp only [okTup, List.length_cons, List.length_nil, List.all_cons, List.all_nil, Bool.and_true, Bool.and_eq_true, decide_eq_true_eq]
  refine ⟨trivial, ⟨h1.1, by omega⟩, ⟨h2.1, by omega⟩, ⟨h3.1, by omega⟩⟩
theorem eB_tup (b : Br) : eB b = tupD [b.1, b.2.1, b.2.2] := rfl
theorem sortB1 {n : Int} {m : Nat} {s : Int} {a : Br} (hn : n ≤ 4) (hm : m ≤ 8) (h : Dr n m s a) : gSort [.list [eB a]] = some (.list [eB a]) := by
  have h1 := h.tup hn hm
  simp [gSort, cOr, gSortI, intsD, gSortT, eB, tupsD, h1, sortT, insT, tupD]
theorem code3 (b : Br) : cdT [b.1, b.2.1, b.2.2] = b.1 * 4096 + b.2.1 * 64 + b.2.2 := by
  simp [cdT, TS.code]; omega
theorem sortB2 {n : Int} {m : Nat} {s : Int} {a b : Br} (hn : n ≤ 4) (hm : m ≤ 8) (h : Dr n m s a) (h' : Dr n m s b) (hk : ¬ (a.1 = b.1 ∧ a.2.1 = b.2.1)) : ∃ bs : List Br, gSort [.list [eB a, eB b]] = some (.list (bs.map eB)) ∧ Two bs ∧ ∀ c ∈ bs, c = a ∨ c = b := by
  have h1 := h.tup hn hm
  have h2 := h'.tup hn hm
  have k1 := code3 a
  have k2 := code3 b
  have ha := h.h; have hb := h.w; have hc := h.t
  have ha' := h'.h; have hb' := h'.w; have hc' := h'.t
  by_cases c : cdT [a.1, a.2.1, a.2.2] ≤ cdT [b.1, b.2.1, b.2.2]
  · refine ⟨[a, b], ?_, Or.inr ⟨a, b, rfl, ?_⟩, by simp⟩
    · simp only [gSort, cOr, gSortI, intsD, gSortT, eB, tupsD, List.length_cons, List.length_nil, h1, h2, sortT, insT, if_pos c]
      simp [eB, tupD, h1, h2, sortT, insT, c]
    · rw [k1, k2] at c
      simp only [HT.lexLt]
      split
      · split
        · omega
        · simp only [decide_eq_true_eq]; omega
      · simp only [decide_eq_true_eq]; omega
  · refine ⟨[b, a], ?_, Or.inr ⟨b, a, rfl, ?_⟩, by simp⟩
    · simp only [gSort, cOr, gSortI, intsD, gSortT, eB, tupsD, List.length_cons, List.length_nil, h1, h2, sortT, insT, if_neg c]
      simp [eB, tupD, h1, h2, sortT, insT, c]
    · rw [k1, k2] at c
      simp only [HT.lexLt]
      split
      · split
        · omega
        · simp only [decide_eq_true_eq]; omega
      · simp only [decide_eq_true_eq]; omega
theorem Dr.ok {n : Int} {m : Nat} {s : Int} {b : Br} (h : Dr n m s b) : OkB n m s b := h.toOkB
/-- what comes out of the two turns -/
def Acc (n : Int) (m : Nat) (s : Int) (acc : List Br) : Prop := (∃ a, acc = [a] ∧ Dr n m s a) ∨ ∃ a b, acc = [a, b] ∧ Dr n m s a ∧ Dr n m s b ∧ ¬ (a.1 = b.1 ∧ a.2.1 = b.2.1)
theorem scene_lc {n at' size s : Int} {lp : Bool} {m : Nat} {acc : List Br} (h : Acc n m s acc) (p q r : FSl) (x : FRow) :
    fOfX (xLc (fSeq (fCall gListOf (aCons (fBor 6) aNil))) (gtName 10) tYesF (fBin gAdd (fBor 10) (fTup (aCons (fBin gAt (fBor 6) (fBor 10)) aNil))) [10]) (scE n at' size lp s acc p q r) x = some (.list (acc.map eB), x) := by
  have hval : ∀ b ∈ acc, valD dKeyT (hd acc) [.inl b.1, .inl b.2.1] = some (.int b.2.2) := by
    rcases h with ⟨a, rfl, _⟩ | ⟨a, b, rfl, _, _, hk⟩
    · intro b hb
      simp only [List.mem_singleton] at hb
      subst hb
      simp [valD, hd, kB, dKeyT, dKeys, dKey]
    · intro c hc
      simp only [List.mem_cons, List.not_mem_nil, or_false] at hc
      rcases hc with rfl | rfl
      · simp [valD, hd, kB, dKeyT, dKeys, dKey]
      · have hk' : ¬ (a.1 = c.1 ∧ a.2.1 = c.2.1) := hk
        simp [valD, hd, kB, dKeyT, dKeys, dKey, List.find?_cons, hk']
  have hl : acc.length ≤ 2 := by rcases h with ⟨a, rfl, _⟩ | ⟨a, b, rfl, _⟩ <;> simp
  refine lc_eq (ds := acc.map kB) ?_ (compL_map kB eB acc fun b hb => ⟨_, rfl, rfl, ?_⟩) ?_
  · simp [fSeq, fCall, aCons, aNil, fBor, scE, OwD.d, gListOf, hd]
  · have hv := hval b hb
    have hk := kB_key b
    simp only [kB] at hk
    simp [fBin, fBor, fTup, aCons, aNil, scE, wipeE, gtName, OwD.d, gAt, gDAt, gDGet, kB, hk, hv, gAdd, gOr, gI, gCatT, maxLen, eB]
  · simp only [List.length_map, maxLen]; omega
theorem scene_ok {n at' : Int} {size : Nat} {lp : Bool} (hn : 2 ≤ n ∧ n ≤ 4) (hz : 1 ≤ size ∧ size ≤ 6) (ha : 0 ≤ at' ∧ at' < size) {x : FRow} (hx : 0 ≤ x.a) :
    ∃ s bs x', m_law_scene [.int n, .int at', .int size, .bool lp] x = some (eS (some (s, bs)), x') ∧ 0 ≤ x'.a ∧ (0 ≤ s ∧ s < n) ∧ Two bs ∧ ∀ b ∈ bs, OkB n (size + 1) s b := by
  obtain ⟨s, x1, h1, h1a, h1b, hx1⟩ := taken_ok (many := n) hx (by omega) (by omega)
  obtain ⟨t2, x2, h2, h2a, h2b, hx2⟩ := taken_ok (many := 2) hx1 (by omega) (by omega)
  have hs : 0 ≤ s ∧ s < n := ⟨h1a, h1b⟩
  obtain ⟨b1, x3, q1, r1, e1, hx3, d1⟩ := turn_ok (lp := lp) (x := x2) hn hs hz ha [] (by simp) (.va (.int 0)) .no .no hx2
  rw [put0] at e1
  have hloop : ∃ acc x' p q r, forL (gtName 7) bTurn (rgD 0 (1 + t2).toNat) (scE n at' size lp s [] .no .no .no) x2 = some (.nx (scE n at' size lp s acc p q r), x') ∧ 0 ≤ x'.a ∧ Acc n (size + 1) s acc := by
    have ht : t2 = 0 ∨ t2 = 1 := by omega
    rcases ht with rfl | rfl
    · refine ⟨[b1], x3, .va (.int 0), q1, r1, ?_, hx3, Or.inl ⟨b1, rfl, d1⟩⟩
      rw [show rgD 0 ((1 : Int) + 0).toNat = [.int 0] from rfl, forL]
      simp only [gtName]
      rw [show (scE n at' size lp s [] .no .no .no).set 7 (.va (.int 0)) = scE n at' size lp s [] (.va (.int 0)) .no .no from rfl, e1]
      rfl
    · obtain ⟨b2, x4, q2, r2, e2, hx4, d2⟩ := turn_ok (lp := lp) (x := x3) hn hs hz ha [b1] (by simp) (.va (.int 1)) q1 r1 hx3
      obtain ⟨acc, hp, hacc⟩ := put1 b1 b2
      rw [hp] at e2
      refine ⟨acc, x4, .va (.int 1), q2, r2, ?_, hx4, ?_⟩
      · rw [show rgD 0 ((1 : Int) + 1).toNat = [.int 0, .int 1] from rfl, forL]
        simp only [gtName]
        rw [show (scE n at' size lp s [] .no .no .no).set 7 (.va (.int 0)) = scE n at' size lp s [] (.va (.int 0)) .no .no from rfl, e1]
        simp only [forL, gtName]
        rw [show ([FSl.rw, .va (.int n), .va (.int at'), .va (.int size), .va (.bool lp), .va (.int s), .ow (.dt (hd [b1])), .va (.int 0), q1, r1, .no] : FEn).set 7 (.va (.int 1)) = scE n at' size lp s [b1] (.va (.int 1)) q1 r1 from rfl, e2]
        rfl
      · rcases hacc with ⟨rfl, k1, k2⟩ | ⟨rfl, hk⟩
        · exact Or.inl ⟨_, rfl, ⟨⟨d1.h, d1.ne, d1.w, d2.t⟩, d1.w2⟩⟩
        · exact Or.inr ⟨_, _, rfl, d1, d2, hk⟩
  obtain ⟨acc, x', p, q, r, e, hx', hacc⟩ := hloop
  have hsort : ∃ bs : List Br, gSort [.list (acc.map eB)] = some (.list (bs.map eB)) ∧ Two bs ∧ ∀ b ∈ bs, OkB n (size + 1) s b := by
    rcases hacc with ⟨a, rfl, ha⟩ | ⟨a, b, rfl, ha, hb, hk⟩
    · exact ⟨[a], sortB1 hn.2 (by omega) ha, Or.inl ⟨a, rfl⟩, by simpa using ha.ok⟩
    · obtain ⟨bs, h1, h2, h3⟩ := sortB2 hn.2 (by omega) ha hb hk
      refine ⟨bs, h1, h2, fun c hc => ?_⟩
      rcases h3 c hc with rfl | rfl
      · exact ha.ok
      · exact hb.ok
  obtain ⟨bs, hs1, hs2, hs3⟩ := hsort
  have hlc := scene_lc (n := n) (at' := at') (size := size) (lp := lp) hacc p q r x'
  refine ⟨s, bs, x', ?_, hx', hs, hs2, hs3⟩
  have c1 : sPars [5, 6] (xsCons (xVal (fCallR 0 m_law_taken (aCons (fVar 1) aNil))) (xsCons (xNew (.dt [])) xsNil)) [.rw, .va (.int n), .va (.int at'), .va (.int size), .va (.bool lp), .no, .no, .no, .no, .no, .no] x = some (.nx (scE n at' size lp s [] .no .no .no), x1) := by
    simp [sPars, xsCons, xsNil, xVal, xNew, fCallR, aCons, aNil, fVar, h1, setsE, scE, hd]
  have c2 : fRg1 (fBin gAdd (fC (.int 1)) (fCallR 0 m_law_taken (aCons (fC (.int 2)) aNil))) (scE n at' size lp s [] .no .no .no) x1 = some (rgD 0 (1 + t2).toNat, x2) := by
    have : okRg (1 + t2) = true := by simp only [okRg, decide_eq_true_eq]; omega
    simp [fRg1, fBin, fC, fCallR, aCons, aNil, scE, h2, gAdd, gOr, gI, this]
  have c3 : b_law_scene [.rw, .va (.int n), .va (.int at'), .va (.int size), .va (.bool lp), .no, .no, .no, .no, .no, .no] x = some (.rt (eS (some (s, bs))), x') := by
    unfold b_law_scene
    rw [sSeq_nx c1, sSeq_nx (by simp only [sFor, c2]; exact e)]
    have v5 : fVar 5 (scE n at' size lp s acc p q r) x' = some (.int s, x') := rfl
    simp only [sRet, fTup, fCall, aCons, aNil, v5, hlc, hs1, gTupOf]
    simp [maxLen, eS]
  show mkR 10 4 b_law_scene _ x = _
  simp only [mkR, List.length_cons, List.length_nil, if_true]
  rw [show FSl.rw :: startE 10 [.int n, .int at', .int size, .bool lp] = [.rw, .va (.int n), .va (.int at'), .va (.int size), .va (.bool lp), .no, .no, .no, .no, .no, .no] from rfl, c3]
end Lw

namespace Lw
open PySem RT
theorem compL_row {gt : FGt} {t : FT} {fe : FE} {env : FEn} (Good : Sc → Prop) : ∀ (l : List Int), (∀ a ∈ l, ∀ x : FRow, 0 ≤ x.a → ∃ e sc x', gt (.int a) env = some e ∧ t e x = some (true, x) ∧ fe e x = some (eS sc, x') ∧ 0 ≤ x'.a ∧ Good sc) → ∀ x : FRow, 0 ≤ x.a → ∃ (scs : List Sc) (x' : FRow), compL gt t fe env (l.map .int) x = some (scs.map eS, x') ∧ 0 ≤ x'.a ∧ scs.length = l.length ∧ ∀ sc ∈ scs, Good sc
  | [], _, x, hx => ⟨[], x, rfl, hx, rfl, by simp⟩
  | a :: l, h, x, hx => by
    obtain ⟨e, sc, x1, h1, h2, h3, h4, h5⟩ := h a (by simp) x hx
    obtain ⟨scs, x2, g1, g2, g3, g4⟩ := compL_row Good l (fun b hb => h b (by simp [hb])) x1 h4
    refine ⟨sc :: scs, x2, by simp [compL, h1, h2, h3, g1], g2, by simp [g3], ?_⟩
    intro z hz
    rcases List.mem_cons.mp hz with rfl | hz
    · exact h5
    · exact g4 z hz
theorem tupOf_ok {F : FE} {env : FEn} {x x1 : FRow} {ds : List D} (h : F env x = some (.list ds, x1)) : fCall gTupOf (aCons F aNil) env x = some (.tuple ds, x1) := by
  simp only [fCall, aCons, aNil, h, gTupOf]
theorem fTup_ok {t : FA} {env : FEn} {x x1 : FRow} {ds : List D} (h : t env x = some (ds, x1)) (hl : ds.length ≤ maxLen) : fTup t env x = some (.tuple ds, x1) := by
  simp only [fTup, h, if_pos hl]
theorem fBin_cat {fa fb : FE} {env : FEn} {x x1 x2 : FRow} {xs ys : List D} (h : fa env x = some (.tuple xs, x1)) (h' : fb env x1 = some (.tuple ys, x2)) (hl : xs.length + ys.length ≤ maxLen) : fBin gAdd fa fb env x = some (.tuple (xs ++ ys), x2) := by
  simp only [fBin, h, h', gAdd, gOr, gI, gCatT, if_pos hl]
theorem aCons2 {fa fb : FE} {env : FEn} {x x1 x2 : FRow} {d e : D} (h : fa env x = some (d, x1)) (h' : fb env x1 = some (e, x2)) : aCons fa (aCons fb aNil) env x = some ([d, e], x2) := by
  simp only [aCons, aNil, h, h']
theorem script_ok {n : Int} {lp : Bool} (hn : 2 ≤ n ∧ n ≤ 4) {x : FRow} (hx : 0 ≤ x.a) : ∃ ss x', m_law_script [.int n, .int 6, .bool lp] x = some (eX n ss, x') ∧ 0 ≤ x'.a ∧ Ok n ss := by
  obtain ⟨t, x1, h1, h1a, h1b, hx1⟩ := taken_ok (many := 6) hx (by omega) (by omega)
  obtain ⟨size, hsz⟩ : ∃ size : Nat, 1 + t = (size : Int) := ⟨(1 + t).toNat, by omega⟩
  have hz : 1 ≤ size ∧ size ≤ 6 := by omega
  have c1 : sSet 4 (xVal (fBin gAdd (fC (.int 1)) (fCallR 0 m_law_taken (aCons (fVar 2) aNil)))) [.rw, .va (.int n), .va (.int 6), .va (.bool lp), .no, .no] x = some (.nx [.rw, .va (.int n), .va (.int 6), .va (.bool lp), .va (.int size), .no], x1) := by
    simp [sSet, xVal, fBin, fC, fCallR, aCons, aNil, fVar, h1, gAdd, gOr, gI, hsz]
  obtain ⟨scs, x2, g1, g2, g3, g4⟩ := compL_row (gt := gtName 5) (t := tYesF) (fe := fCallR 0 m_law_scene (aCons (fVar 1) (aCons (fVar 5) (aCons (fVar 4) (aCons (fVar 3) aNil))))) (env := [.rw, .va (.int n), .va (.int 6), .va (.bool lp), .va (.int size), .no]) (fun sc => ∃ s bs, sc = some (s, bs) ∧ (0 ≤ s ∧ s < n) ∧ Two bs ∧ ∀ b ∈ bs, OkB n (size + 1) s b) ((List.range size).map fun (i : Nat) => (i : Int)) (by
    intro a ha x hx
    obtain ⟨i, hi, rfl⟩ := List.mem_map.mp ha
    have hi' : i < size := by simpa using hi
    obtain ⟨s, bs, x', e1, e2, e3, e4, e5⟩ := scene_ok (at' := (i : Int)) (lp := lp) hn hz ⟨by omega, by omega⟩ hx
    refine ⟨_, some (s, bs), x', rfl, rfl, ?_, e2, s, bs, rfl, e3, e4, e5⟩
    simp [fCallR, aCons, aNil, fVar, e1]) x1 hx1
  have hlen : scs.length = size := by simpa using g3
  have c2 : fOfX (xLc (fRg1 (fVar 4)) (gtName 5) tYesF (fCallR 0 m_law_scene (aCons (fVar 1) (aCons (fVar 5) (aCons (fVar 4) (aCons (fVar 3) aNil))))) [5]) [.rw, .va (.int n), .va (.int 6), .va (.bool lp), .va (.int size), .no] x1 = some (.list (scs.map eS), x2) := by
    have hr : okRg (size : Int) = true := rg_ok (by omega)
    have hrg : fRg1 (fVar 4) [.rw, .va (.int n), .va (.int 6), .va (.bool lp), .va (.int size), .no] x1 = some (((List.range size).map fun (i : Nat) => (i : Int)).map D.int, x1) := by
      simp [fRg1, fVar, hr, rgD_map]
    have hm : (scs.map eS).length < maxLen := by simp only [List.length_map, maxLen]; omega
    rw [fOfX, xLc, hrg]
    simp only
    rw [show wipeE [FSl.rw, .va (.int n), .va (.int 6), .va (.bool lp), .va (.int size), .no] [5] = [FSl.rw, .va (.int n), .va (.int 6), .va (.bool lp), .va (.int size), .no] from rfl, g1]
    simp only [if_pos hm, OwD.d]
  refine ⟨scs ++ [none], x2, ?_, g2, ⟨hn, by simp; omega, ?_⟩⟩
  · have c3 : b_law_script [.rw, .va (.int n), .va (.int 6), .va (.bool lp), .no, .no] x = some (.rt (eX n (scs ++ [none])), x2) := by
      unfold b_law_script
      rw [sSeq_nx c1]
      have hm : (scs.map eS).length + [D.none].length ≤ maxLen := by simp only [List.length_map, List.length_cons, List.length_nil, maxLen]; omega
      have h0 : ([] : List D).length ≤ maxLen := Nat.zero_le _
      have h1 : [D.none].length ≤ maxLen := by simp only [List.length_cons, List.length_nil, maxLen]; omega
      have h2 : [D.int n, .tuple (scs.map eS ++ [.none])].length ≤ maxLen := by simp only [List.length_cons, List.length_nil, maxLen]; omega
      have v1 : fVar 1 [.rw, .va (.int n), .va (.int 6), .va (.bool lp), .va (.int size), .no] x1 = some (.int n, x1) := rfl
      have q1 := tupOf_ok c2
      have q2 : fTup (aCons (fC .none) aNil) [.rw, .va (.int n), .va (.int 6), .va (.bool lp), .va (.int size), .no] x2 = some (.tuple [.none], x2) := fTup_ok rfl h1
      have q3 := fBin_cat q1 q2 hm
      have q4 := fTup_ok (aCons2 v1 q3) h2
      rw [sRet, q4]
      simp only [eX, List.map_append, List.map_cons, List.map_nil, eS]
    show mkR 5 3 b_law_script _ x = _
    simp only [mkR, List.length_cons, List.length_nil, if_true]
    rw [show FSl.rw :: startE 5 [.int n, .int 6, .bool lp] = [.rw, .va (.int n), .va (.int 6), .va (.bool lp), .no, .no] from rfl, c3]
  · intro s bs hm
    have hm' : some (s, bs) ∈ scs := by simpa using hm
    obtain ⟨s', bs', e, h2, h3, h4⟩ := g4 _ hm'
    simp only [Option.some.injEq, Prod.mk.injEq] at e
    obtain ⟨rfl, rfl⟩ := e
    refine ⟨h2, h3, fun b hb => ?_⟩
    have := h4 b hb
    rw [List.length_append, hlen]
    exact this
end Lw

namespace Lw
open PySem RT
section
variable {n : Int} {ss : List Sc}
def lE (X : D) (s3 s4 s5 s6 s7 s8 s9 s10 s11 s12 s13 s14 s15 s16 s17 : FSl) : FEn := [.no, .rw, .va X, s3, s4, s5, s6, s7, s8, s9, s10, s11, s12, s13, s14, s15, s16, s17]
abbrev il (l : List Int) : D := .list (l.map .int)
/-- the state inside the big loop -/
def bE (X : D) (R En : List Int) (v : Int) (ro ca : Bool) (A F L : List Int) (s11 : FSl) : FEn := lE X (.va (il R)) (.va (.int v)) (.va (il En)) (.va (.bool ro)) (.va (.bool ca)) (.ow (.dk (dS A))) (.ow (.dk (dS F))) (.va (il L)) s11 .no .no .no .no .no .no
abbrev bIn : FS := sSeq (sSet 10 (xVal (fBin gAdd (fBor 10) (fCall m_law_coming (aCons (fVar 2) (aCons (fBin gAt (fBor 11) (fC (.int 2))) aNil))))))
    (sSeq (sDPut 8 (fBin gAt (fBin gAt (fBin gAt (fBor 2) (fC (.int 1))) (fBor 4)) (fC (.int 0))) (fC (.bool true)))
    (sSeq (sDPut 9 (fBin gAt (fBin gAt (fBin gAt (fBor 2) (fC (.int 1))) (fBor 4)) (fC (.int 0))) (fC (.bool true)))
    (sDPut 8 (fBin gAt (fBor 11) (fC (.int 0))) (fC (.bool true)))))
theorem nob {α : Type} (l : List α) (h : l.length ≤ 100) : l.length < maxLen := by simp only [maxLen]; omega
theorem in_step (k : Ok n ss) {v : Int} (hv : 0 ≤ v ∧ v < ss.length) {b : Br} (hb : b ∈ brs ss v) {R En A F L : List Int} {ro ca : Bool} (hA : A.length ≤ 50) (hF : F.length ≤ 50) (hL : L.length ≤ 50) (x : FRow) :
    bIn (bE (eX n ss) R En v ro ca A F L (.va (eB b))) x = some (.nx (bE (eX n ss) R En v ro ca (Bf.adds (Bf.adds A [spk (scAt ss v)]) [b.1]) (Bf.adds F [spk (scAt ss v)]) (L ++ sortI (OO ss b.2.2)) (.va (eB b))), x) := by
  have hb' := brs_t k hv b hb
  have hlc := law_coming_eq k hb'
  have hat2 : gAt (eB b) (.int 2) = some (.int b.2.2) := by simp [gAt, eB, atI_z2]
  have hat0 : gAt (eB b) (.int 0) = some (.int b.1) := by simp [gAt, eB, atI_z0]
  have hsp : gAt (eS (scAt ss v)) (.int 0) = some (.int (spk (scAt ss v))) := by
    unfold brs at hb
    cases c : scAt ss v with
    | none => rw [c] at hb; simp [bsOf] at hb
    | some p => simp [eS, gAt, atI_z0, spk]
  have hx1 := eX_1 n ss
  have hxv := eX_at (n := n) hv.1 hv.2
  generalize spk (scAt ss v) = s at *
  have hlen : (sortI (OO ss b.2.2)).length ≤ 7 := by rw [(sortI_perm _).length_eq]; exact OO_len k hb'
  have hcat : L.length + (sortI (OO ss b.2.2)).length ≤ 1000000 := by omega
  have hA1 := adds1_len A s
  have d1 : (dS A).length < maxLen := nob _ (by simp [dS]; omega)
  have d2 : (dS F).length < maxLen := nob _ (by simp [dS]; omega)
  have d3 : (dS (Bf.adds A [s])).length < maxLen := nob _ (by simp [dS]; omega)
  have p1 := dS_put s A
  have p2 := dS_put s F
  have p3 := dS_put b.1 (Bf.adds A [s])
  have hm0 : m_law_coming [eX n ss, .int b.2.2] = some (il (sortI (OO ss b.2.2))) := hlc
  have c1 : sSet 10 (xVal (fBin gAdd (fBor 10) (fCall m_law_coming (aCons (fVar 2) (aCons (fBin gAt (fBor 11) (fC (.int 2))) aNil))))) (bE (eX n ss) R En v ro ca A F L (.va (eB b))) x = some (.nx (bE (eX n ss) R En v ro ca A F (L ++ sortI (OO ss b.2.2)) (.va (eB b))), x) := by
    simp [sSet, xVal, fBin, fBor, fC, fCall, aCons, aNil, fVar, bE, lE, hat2, hm0, gAdd, gOr, gI, gCatT, gCatL, maxLen, hcat]
  have c2 : sDPut 8 (fBin gAt (fBin gAt (fBin gAt (fBor 2) (fC (.int 1))) (fBor 4)) (fC (.int 0))) (fC (.bool true)) (bE (eX n ss) R En v ro ca A F (L ++ sortI (OO ss b.2.2)) (.va (eB b))) x = some (.nx (bE (eX n ss) R En v ro ca (Bf.adds A [s]) F (L ++ sortI (OO ss b.2.2)) (.va (eB b))), x) := by
    simp [sDPut, fBin, fBor, fC, bE, lE, hx1, hxv, hsp, dKey, d1, p1]
  have c3 : sDPut 9 (fBin gAt (fBin gAt (fBin gAt (fBor 2) (fC (.int 1))) (fBor 4)) (fC (.int 0))) (fC (.bool true)) (bE (eX n ss) R En v ro ca (Bf.adds A [s]) F (L ++ sortI (OO ss b.2.2)) (.va (eB b))) x = some (.nx (bE (eX n ss) R En v ro ca (Bf.adds A [s]) (Bf.adds F [s]) (L ++ sortI (OO ss b.2.2)) (.va (eB b))), x) := by
    simp [sDPut, fBin, fBor, fC, bE, lE, hx1, hxv, hsp, dKey, d2, p2]
  have c4 : sDPut 8 (fBin gAt (fBor 11) (fC (.int 0))) (fC (.bool true)) (bE (eX n ss) R En v ro ca (Bf.adds A [s]) (Bf.adds F [s]) (L ++ sortI (OO ss b.2.2)) (.va (eB b))) x = some (.nx (bE (eX n ss) R En v ro ca (Bf.adds (Bf.adds A [s]) [b.1]) (Bf.adds F [s]) (L ++ sortI (OO ss b.2.2)) (.va (eB b))), x) := by
    simp [sDPut, fBin, fBor, fC, bE, lE, hat0, dKey, d3, p3]
  unfold bIn
  rw [sSeq_nx c1, sSeq_nx c2, sSeq_nx c3, c4]
theorem in_loop (k : Ok n ss) {v : Int} (hv : 0 ≤ v ∧ v < ss.length) {R En : List Int} {ro ca : Bool} (x : FRow) : ∀ (bs : List Br), (∀ b ∈ bs, b ∈ brs ss v) → ∀ (A F L : List Int) (s11 : FSl), A.Nodup → F.Nodup → A.length + 2 * bs.length ≤ 50 → F.length + bs.length ≤ 50 → L.length + 7 * bs.length ≤ 50 →
    ∃ A' F' s11', forL (gtName 11) bIn (bs.map eB) (bE (eX n ss) R En v ro ca A F L s11) x = some (.nx (bE (eX n ss) R En v ro ca A' F' (L ++ bs.flatMap fun b => sortI (OO ss b.2.2)) s11'), x) ∧ A'.Nodup ∧ F'.Nodup ∧ A'.length ≤ A.length + 2 * bs.length ∧ F'.length ≤ F.length + bs.length ∧ (∀ z, z ∈ A' ↔ z ∈ A ∨ ∃ b ∈ bs, z = spk (scAt ss v) ∨ z = b.1) ∧ (∀ z, z ∈ F' ↔ z ∈ F ∨ ∃ b ∈ bs, z = spk (scAt ss v))
  | [], _, A, F, L, s11, hA, hF, _, _, _ => ⟨A, F, s11, by simp [forL], hA, hF, by simp, by simp, by simp, by simp⟩
  | b :: bs, hbs, A, F, L, s11, hA, hF, h1, h2, h3 => by
    simp only [List.length_cons] at h1 h2 h3
    have hb := hbs b (by simp)
    have hb' := brs_t k hv b hb
    have c := in_step k hv hb (R := R) (En := En) (ro := ro) (ca := ca) (A := A) (F := F) (L := L) (by omega) (by omega) (by omega) x
    have l1 := adds1_len A (spk (scAt ss v))
    have l2 := adds1_len (Bf.adds A [spk (scAt ss v)]) b.1
    have l3 := adds1_len F (spk (scAt ss v))
    have l4 : (sortI (OO ss b.2.2)).length ≤ 7 := by rw [(sortI_perm _).length_eq]; exact OO_len k hb'
    obtain ⟨A', F', t, e, n1, n2, m1, m2, q1, q2⟩ := in_loop k hv (R := R) (En := En) (ro := ro) (ca := ca) x bs (fun c hc => hbs c (by simp [hc])) (Bf.adds (Bf.adds A [spk (scAt ss v)]) [b.1]) (Bf.adds F [spk (scAt ss v)]) (L ++ sortI (OO ss b.2.2)) (.va (eB b)) (Bf.adds_nd _ _ (Bf.adds_nd _ _ hA)) (Bf.adds_nd _ _ hF) (by omega) (by omega) (by simp only [List.length_append]; omega)
    refine ⟨A', F', t, ?_, n1, n2, by simp only [List.length_cons]; omega, by simp only [List.length_cons]; omega, fun z => ?_, fun z => ?_⟩
    · rw [List.map_cons, forL]
      simp only [gtName]
      rw [show (bE (eX n ss) R En v ro ca A F L s11).set 11 (.va (eB b)) = bE (eX n ss) R En v ro ca A F L (.va (eB b)) from rfl, c]
      simp only [e, List.flatMap_cons, List.append_assoc]
    · rw [q1, Bf.adds_mem, Bf.adds_mem]; simp only [List.mem_cons, List.not_mem_nil, or_false, exists_eq_or_imp]; grind
    · rw [q2, Bf.adds_mem]; simp only [List.mem_cons, List.not_mem_nil, or_false, exists_eq_or_imp]; grind
end
end Lw

namespace Lw
open PySem RT
theorem fLst_ok {t : FA} {env : FEn} {x x1 : FRow} {ds : List D} (h : t env x = some (ds, x1)) (hl : ds.length ≤ maxLen) : fLst t env x = some (.list ds, x1) := by
  simp only [fLst, h, if_pos hl]
theorem ml (k : Nat) (h : k ≤ 1000) : k ≤ maxLen := by simp only [maxLen]; omega
theorem sSet_va {i : Nat} {f : FE} {env : FEn} {x x1 : FRow} {d : D} (h : f env x = some (d, x1)) : sSet i (xVal f) env x = some (.nx (env.set i (.va d)), x1) := by
  simp only [sSet, xVal, h]
theorem fOr_eq {fa fb : FE} {env : FEn} {x : FRow} {a b : Bool} (h : fa env x = some (.bool a, x)) (h' : fb env x = some (.bool b, x)) : fOr fa fb env x = some (.bool (a || b), x) := by
  cases a <;> simp only [fOr, h, h', Bool.true_or, Bool.false_or]
theorem fAnd_eq {fa fb : FE} {env : FEn} {x : FRow} {a b : Bool} (h : fa env x = some (.bool a, x)) (h' : fb env x = some (.bool b, x)) : fAnd fa fb env x = some (.bool (a && b), x) := by
  cases a <;> simp only [fAnd, h, h', Bool.true_and, Bool.false_and]
theorem fBin_eq {gd : D → D → Option D} {fa fb : FE} {env : FEn} {x x1 x2 : FRow} {d e r : D} (h : fa env x = some (d, x1)) (h' : fb env x1 = some (e, x2)) (hg : gd d e = some r) : fBin gd fa fb env x = some (r, x2) := by
  simp only [fBin, h, h', hg]
theorem fCall_eq {m : List D → Option D} {fa : FA} {env : FEn} {x x1 : FRow} {ds : List D} {r : D} (h : fa env x = some (ds, x1)) (hm : m ds = some r) : fCall m fa env x = some (r, x1) := by
  simp only [fCall, h, hm]
theorem aCons1 {fa : FE} {env : FEn} {x x1 : FRow} {d : D} (h : fa env x = some (d, x1)) : aCons fa aNil env x = some ([d], x1) := by
  simp only [aCons, aNil, h]
section
variable {n : Int} {ss : List Sc}
def lat (ss : List Sc) (v : Int) : List Int := (brs ss v).flatMap fun b => sortI (OO ss b.2.2)
def stops (ss : List Sc) (En : List Int) (v : Int) : Bool := !((sortI (OO ss v)).filter fun u => decide (u ∈ En)).isEmpty
def bG (X : D) (R En : List Int) (s4 : FSl) (ro ca : Bool) (A F : List Int) (s10 s11 : FSl) : FEn := lE X (.va (il R)) s4 (.va (il En)) (.va (.bool ro)) (.va (.bool ca)) (.ow (.dk (dS A))) (.ow (.dk (dS F))) s10 s11 .no .no .no .no .no .no
abbrev CL : FE := fOfX (xLc (fSeq (fCall m_law_coming (aCons (fVar 2) (aCons (fVar 4) aNil)))) (gtName 16) (fTst (fBin gInA (fBor 16) (fBor 5))) (fVar 16) [16])
abbrev bBody : FS := sSeq (sSet 10 (xVal (fLst aNil)))
    (sSeq (sFor (fSeq (fCall m_law_branches (aCons (fVar 2) (aCons (fVar 4) aNil)))) (gtName 11) bIn)
    (sSeq (sSet 6 (xVal (fOr (fVar 6) (fBin gInA (fBor 4) (fBor 10)))))
    (sSet 7 (xVal (fAnd (fVar 7) (fBin gNe CL (fLst aNil)))))))
theorem big_step (k : Ok n ss) {v : Int} (hv : 0 ≤ v ∧ v < ss.length) {R En A F : List Int} {ro ca : Bool} (hA : A.Nodup) (hF : F.Nodup) (h1 : A.length ≤ 40) (h2 : F.length ≤ 40) (s10 s11 : FSl) (x : FRow) :
    ∃ A' F' s10' s11', bBody (bG (eX n ss) R En (.va (.int v)) ro ca A F s10 s11) x = some (.nx (bG (eX n ss) R En (.va (.int v)) (ro || decide (v ∈ lat ss v)) (ca && stops ss En v) A' F' s10' s11'), x) ∧ A'.Nodup ∧ F'.Nodup ∧ A'.length ≤ A.length + 4 ∧ F'.length ≤ F.length + 2 ∧ (∀ z, z ∈ A' ↔ z ∈ A ∨ ∃ b ∈ brs ss v, z = spk (scAt ss v) ∨ z = b.1) ∧ (∀ z, z ∈ F' ↔ z ∈ F ∨ ∃ b ∈ brs ss v, z = spk (scAt ss v)) := by
  have hb := brs_len k hv
  obtain ⟨A', F', t, e, n1, n2, m1, m2, q1, q2⟩ := in_loop k hv (R := R) (En := En) (ro := ro) (ca := ca) x (brs ss v) (fun b hb => hb) A F [] s11 hA hF (by omega) (by omega) (by simp; omega)
  refine ⟨A', F', .va (il (lat ss v)), t, ?_, n1, n2, by omega, by omega, q1, q2⟩
  have c1 : sSet 10 (xVal (fLst aNil)) (bG (eX n ss) R En (.va (.int v)) ro ca A F s10 s11) x = some (.nx (bE (eX n ss) R En v ro ca A F [] s11), x) := sSet_va (fLst_ok rfl (ml 0 (by omega)))
  have c2 : fSeq (fCall m_law_branches (aCons (fVar 2) (aCons (fVar 4) aNil))) (bE (eX n ss) R En v ro ca A F [] s11) x = some ((brs ss v).map eB, x) := by
    have : fCall m_law_branches (aCons (fVar 2) (aCons (fVar 4) aNil)) (bE (eX n ss) R En v ro ca A F [] s11) x = some (.tuple ((brs ss v).map eB), x) := fCall_eq (aCons2 rfl rfl) (law_branches_eq hv.1 hv.2)
    simp only [fSeq, this]
  rw [List.nil_append] at e
  have c4 : sSet 6 (xVal (fOr (fVar 6) (fBin gInA (fBor 4) (fBor 10)))) (bE (eX n ss) R En v ro ca A' F' (lat ss v) t) x = some (.nx (bE (eX n ss) R En v (ro || decide (v ∈ lat ss v)) ca A' F' (lat ss v) t), x) := by
    have h1 : fVar 6 (bE (eX n ss) R En v ro ca A' F' (lat ss v) t) x = some (.bool ro, x) := rfl
    have h2 : fBin gInA (fBor 4) (fBor 10) (bE (eX n ss) R En v ro ca A' F' (lat ss v) t) x = some (.bool (decide (v ∈ lat ss v)), x) := fBin_eq (d := .int v) (e := il (lat ss v)) rfl rfl (in_ints v (lat ss v))
    exact sSet_va (fOr_eq h1 h2)
  have c5 : CL (bE (eX n ss) R En v (ro || decide (v ∈ lat ss v)) ca A' F' (lat ss v) t) x = some (il ((sortI (OO ss v)).filter fun u => decide (u ∈ En)), x) := by
    refine lc_eq (ds := (sortI (OO ss v)).map .int) ?_ (compL_gen D.int (fun u => decide (u ∈ En)) D.int (sortI (OO ss v)) fun u hu => ⟨_, rfl, ?_, fun _ => rfl⟩) ?_
    · have : fCall m_law_coming (aCons (fVar 2) (aCons (fVar 4) aNil)) (bE (eX n ss) R En v (ro || decide (v ∈ lat ss v)) ca A' F' (lat ss v) t) x = some (il (sortI (OO ss v)), x) := fCall_eq (aCons2 rfl rfl) (law_coming_eq k hv)
      simp only [fSeq, this, il]
    · have := fBin_eq (gd := gInA) (fa := fBor 16) (fb := fBor 5) (env := (wipeE (bE (eX n ss) R En v (ro || decide (v ∈ lat ss v)) ca A' F' (lat ss v) t) [16]).set 16 (.va (.int u))) (x := x) (d := .int u) (e := il En) rfl rfl (in_ints u En)
      simp only [fTst, this]
    · have a1 := List.length_filter_le (fun u => decide (u ∈ En)) (sortI (OO ss v))
      have a2 : (sortI (OO ss v)).length ≤ 7 := by rw [(sortI_perm _).length_eq]; exact OO_len k hv
      exact nob _ (by rw [List.length_map]; omega)
  have c6 : sSet 7 (xVal (fAnd (fVar 7) (fBin gNe CL (fLst aNil)))) (bE (eX n ss) R En v (ro || decide (v ∈ lat ss v)) ca A' F' (lat ss v) t) x = some (.nx (bE (eX n ss) R En v (ro || decide (v ∈ lat ss v)) (ca && stops ss En v) A' F' (lat ss v) t), x) := by
    have h1 : fVar 7 (bE (eX n ss) R En v (ro || decide (v ∈ lat ss v)) ca A' F' (lat ss v) t) x = some (.bool ca, x) := rfl
    exact sSet_va (fAnd_eq h1 (fBin_eq c5 (fLst_ok rfl (ml 0 (by omega))) (ne_nil _)))
  unfold bBody
  rw [sSeq_nx c1, sSeq_nx (by simp only [sFor, c2]; exact e)]
  rw [show (brs ss v).flatMap (fun b => sortI (OO ss b.2.2)) = lat ss v from rfl, sSeq_nx c4, c6]
  rfl
theorem big_loop (k : Ok n ss) {R En : List Int} (x : FRow) : ∀ (l : List Int), (∀ v ∈ l, 0 ≤ v ∧ v < (ss.length : Int)) → ∀ (A F : List Int) (ro ca : Bool) (s4 s10 s11 : FSl), A.Nodup → F.Nodup → A.length + 4 * l.length ≤ 40 → F.length + 2 * l.length ≤ 40 →
    ∃ A' F' s4' s10' s11', forL (gtName 4) bBody (l.map .int) (bG (eX n ss) R En s4 ro ca A F s10 s11) x = some (.nx (bG (eX n ss) R En s4' (ro || l.any fun v => decide (v ∈ lat ss v)) (ca && l.all (stops ss En)) A' F' s10' s11'), x) ∧ A'.Nodup ∧ F'.Nodup ∧ A'.length ≤ 40 ∧ F'.length ≤ 40 ∧ (∀ z, z ∈ A' ↔ z ∈ A ∨ ∃ v ∈ l, ∃ b ∈ brs ss v, z = spk (scAt ss v) ∨ z = b.1) ∧ (∀ z, z ∈ F' ↔ z ∈ F ∨ ∃ v ∈ l, ∃ b ∈ brs ss v, z = spk (scAt ss v))
  | [], _, A, F, ro, ca, s4, s10, s11, hA, hF, h1, h2 => ⟨A, F, s4, s10, s11, by simp [forL], hA, hF, by simpa using h1, by simpa using h2, by simp, by simp⟩
  | v :: l, hl, A, F, ro, ca, s4, s10, s11, hA, hF, h1, h2 => by
    simp only [List.length_cons] at h1 h2
    obtain ⟨A1, F1, a, b, e, n1, n2, m1, m2, q1, q2⟩ := big_step k (hl v (by simp)) (R := R) (En := En) (ro := ro) (ca := ca) hA hF (by omega) (by omega) s10 s11 x
    obtain ⟨A', F', s4', s10', s11', e', n1', n2', m1', m2', q1', q2'⟩ := big_loop k (R := R) (En := En) x l (fun u hu => hl u (by simp [hu])) A1 F1 (ro || decide (v ∈ lat ss v)) (ca && stops ss En v) (.va (.int v)) a b n1 n2 (by omega) (by omega)
    refine ⟨A', F', s4', s10', s11', ?_, n1', n2', m1', m2', fun z => ?_, fun z => ?_⟩
    · rw [List.map_cons, forL]
      simp only [gtName]
      rw [show (bG (eX n ss) R En s4 ro ca A F s10 s11).set 4 (.va (.int v)) = bG (eX n ss) R En (.va (.int v)) ro ca A F s10 s11 from rfl, e]
      simp only [e', List.any_cons, List.all_cons, Bool.or_assoc, Bool.and_assoc]
    · rw [q1', q1]; simp only [List.mem_cons, exists_eq_or_imp, or_assoc]
    · rw [q2', q2]; simp only [List.mem_cons, exists_eq_or_imp, or_assoc]
/-- the order -/
def oE (X : D) (p3 p4 p5 p6 p7 p8 p9 p10 p11 : FSl) (O : List Int) (c : Int) : FEn := lE X p3 p4 p5 p6 p7 p8 p9 p10 p11 (.va (il O)) (.va (.int c)) .no .no .no .no
abbrev oIn : FS := sSet 12 (xVal (fBin gAdd (fBor 12) (fBin gMul (fLst (aCons (fBin gAt (fBor 11) (fC (.int 2))) aNil)) (fCall gInt (aCons (fBin gNotInA (fBin gAt (fBor 11) (fC (.int 2))) (fBor 12)) aNil)))))
theorem eB_2 (b : Br) : gAt (eB b) (.int 2) = some (.int b.2.2) := by simp [gAt, eB, atI_z2]
theorem rep_eq (t : Int) (c : Bool) : gMul (.list [.int t]) (.int (if (!c) then 1 else 0)) = some (il (if c then [] else [t])) := by
  cases c <;> rfl
theorem cat_il (O T : List Int) (h : O.length + T.length ≤ maxLen) : gAdd (il O) (il T) = some (il (O ++ T)) := by
  have h' : (O.map D.int).length + (T.map D.int).length ≤ maxLen := by rw [List.length_map, List.length_map]; exact h
  simp only [gAdd, gOr, gI, gCatT, gCatL, il, if_pos h', List.map_append]
theorem o_step {X : D} {p3 p4 p5 p6 p7 p8 p9 p10 : FSl} {O : List Int} {c : Int} (b : Br) (hO : O.length ≤ 100) (x : FRow) :
    oIn (oE X p3 p4 p5 p6 p7 p8 p9 p10 (.va (eB b)) O c) x = some (.nx (oE X p3 p4 p5 p6 p7 p8 p9 p10 (.va (eB b)) (Bf.adds O [b.2.2]) c), x) := by
  have h2 : fBin gAt (fBor 11) (fC (.int 2)) (oE X p3 p4 p5 p6 p7 p8 p9 p10 (.va (eB b)) O c) x = some (.int b.2.2, x) := fBin_eq (d := eB b) rfl rfl (eB_2 b)
  have h3 : fBin gNotInA (fBin gAt (fBor 11) (fC (.int 2))) (fBor 12) (oE X p3 p4 p5 p6 p7 p8 p9 p10 (.va (eB b)) O c) x = some (.bool (!decide (b.2.2 ∈ O)), x) := fBin_eq (e := il O) h2 rfl (notin_ints b.2.2 O)
  have h4 := fCall_eq (m := gInt) (aCons1 h3) rfl
  have h5 := fLst_ok (aCons1 h2) (ml 1 (by omega))
  have h6 := fBin_eq h5 h4 (rep_eq b.2.2 (decide (b.2.2 ∈ O)))
  have h7 : fBor 12 (oE X p3 p4 p5 p6 p7 p8 p9 p10 (.va (eB b)) O c) x = some (il O, x) := rfl
  have h8 := fBin_eq h7 h6 (cat_il O _ (ml _ (by split <;> simp <;> omega)))
  have e : O ++ (if decide (b.2.2 ∈ O) = true then [] else [b.2.2]) = Bf.adds O [b.2.2] := by
    rw [Bf.adds_cons, Bf.adds_nil]
    by_cases h : b.2.2 ∈ O <;> simp [h]
  rw [e] at h8
  exact sSet_va h8
theorem o_inner {X : D} {p3 p4 p5 p6 p7 p8 p9 p10 : FSl} {c : Int} (x : FRow) (bs : List Br) (O : List Int) (hO : O.length + bs.length ≤ 100) (p11 : FSl) :
    ∃ p11', forL (gtName 11) oIn (bs.map eB) (oE X p3 p4 p5 p6 p7 p8 p9 p10 p11 O c) x = some (.nx (oE X p3 p4 p5 p6 p7 p8 p9 p10 p11' (Bf.adds O (bs.map (·.2.2))) c), x) := by
  induction bs generalizing O p11 with
  | nil => exact ⟨p11, rfl⟩
  | cons b bs ih =>
    simp only [List.length_cons] at hO
    have h1 := adds1_len O b.2.2
    obtain ⟨q, e⟩ := ih (Bf.adds O [b.2.2]) (by omega) (.va (eB b))
    refine ⟨q, ?_⟩
    rw [List.map_cons, forL]
    simp only [gtName]
    rw [show (oE X p3 p4 p5 p6 p7 p8 p9 p10 p11 O c).set 11 (.va (eB b)) = oE X p3 p4 p5 p6 p7 p8 p9 p10 (.va (eB b)) O c from rfl, o_step b (by omega) x]
    exact e
abbrev oT : FT := tAndF (fTst (fBin gLt (fBor 13) (fCall gLen (aCons (fBor 12) aNil)))) (fTst (fBin gLt (fBor 13) (fC (.int 10))))
abbrev oB : FS := sSeq (sFor (fSeq (fCall m_law_branches (aCons (fVar 2) (aCons (fBin gAt (fBor 12) (fBor 13)) aNil)))) (gtName 11) oIn) (sSet 13 (xVal (fBin gAdd (fBor 13) (fC (.int 1)))))
theorem o_loop (k : Ok n ss) {p3 p4 p5 p6 p7 p8 p9 p10 p11 : FSl} (x : FRow) : ∃ p11' c, whL oT oB 1000 (oE (eX n ss) p3 p4 p5 p6 p7 p8 p9 p10 p11 [0] 0) x = some (.nx (oE (eX n ss) p3 p4 p5 p6 p7 p8 p9 p10 p11' (OO ss 0) c), x) := by
  have W := k.web
  have hm := k.m
  have hv := k.z
  obtain ⟨stop, hs1, hs2, hs3⟩ := first_ex (P := fun j => (Bf.bf (GG ss) 0 j).length ≤ j) 8 (by have := Bf.bf_len hv W.to 8; omega)
  have hO : ∀ j, (Bf.bf (GG ss) 0 j).length ≤ 7 := fun j => by have := Bf.bf_len hv W.to j; omega
  have tst : ∀ (j : Nat) (p : FSl), fTst (fBin gLt (fBor 13) (fCall gLen (aCons (fBor 12) aNil))) (oE (eX n ss) p3 p4 p5 p6 p7 p8 p9 p10 p (Bf.bf (GG ss) 0 j) j) x = some (decide ((j : Int) < (Bf.bf (GG ss) 0 j).length), x) := by
    intro j p
    have h1 : fBor 13 (oE (eX n ss) p3 p4 p5 p6 p7 p8 p9 p10 p (Bf.bf (GG ss) 0 j) j) x = some (.int j, x) := rfl
    have h2 : fCall gLen (aCons (fBor 12) aNil) (oE (eX n ss) p3 p4 p5 p6 p7 p8 p9 p10 p (Bf.bf (GG ss) 0 j) j) x = some (.int ((Bf.bf (GG ss) 0 j).length), x) := fCall_eq (aCons1 (d := il (Bf.bf (GG ss) 0 j)) rfl) (by simp [gLen])
    have h3 := fBin_eq (gd := gLt) h1 h2 (r := .bool (decide ((j : Int) < (Bf.bf (GG ss) 0 j).length))) (by simp [gLt, gOr, gI])
    simp only [fTst, h3]
  obtain ⟨e2, h1, p, h2⟩ := whL_inv (t := oT) (b := oB) (x := x) (fun j env => ∃ p, env = oE (eX n ss) p3 p4 p5 p6 p7 p8 p9 p10 p (Bf.bf (GG ss) 0 j) j) stop (by
    rintro j _ ⟨p, rfl⟩ hj
    have hlt : j < (Bf.bf (GG ss) 0 j).length := by have := hs3 j hj; omega
    have hz : (Bf.bf (GG ss) 0 j)[j]? = some (Bf.bf (GG ss) 0 j)[j] := List.getElem?_eq_getElem hlt
    have hu := Bf.bf_in (fun x => 0 ≤ x ∧ x < (ss.length : Int)) hv W.to j _ (List.getElem_mem hlt)
    generalize hue : (Bf.bf (GG ss) 0 j)[j] = u at hz hu
    have hstep : Bf.bf (GG ss) 0 (j + 1) = Bf.adds (Bf.bf (GG ss) 0 j) (GG ss u) := by rw [Bf.bf, hz]
    have hlt' : decide ((j : Int) < ((Bf.bf (GG ss) 0 j).length : Int)) = true := by simpa using hlt
    constructor
    · have h4 : fTst (fBin gLt (fBor 13) (fC (.int 10))) (oE (eX n ss) p3 p4 p5 p6 p7 p8 p9 p10 p (Bf.bf (GG ss) 0 j) j) x = some (true, x) := by
        have h1 : fBor 13 (oE (eX n ss) p3 p4 p5 p6 p7 p8 p9 p10 p (Bf.bf (GG ss) 0 j) j) x = some (.int j, x) := rfl
        have hj10 : (j : Int) < 10 := by omega
        have h3 := fBin_eq (gd := gLt) h1 (fb := fC (.int 10)) (x2 := x) rfl (r := .bool true) (by simp [gLt, gOr, gI, hj10])
        simp only [fTst, h3]
      simp only [oT, tAndF, tst, hlt', h4]
    · have ha : gAt (il (Bf.bf (GG ss) 0 j)) (.int j) = some (.int u) := atI_nat (by rw [List.getElem?_map, hz]; rfl)
      have h5 : fBin gAt (fBor 12) (fBor 13) (oE (eX n ss) p3 p4 p5 p6 p7 p8 p9 p10 p (Bf.bf (GG ss) 0 j) j) x = some (.int u, x) := fBin_eq (d := il (Bf.bf (GG ss) 0 j)) (e := .int j) rfl rfl ha
      have h6 : fCall m_law_branches (aCons (fVar 2) (aCons (fBin gAt (fBor 12) (fBor 13)) aNil)) (oE (eX n ss) p3 p4 p5 p6 p7 p8 p9 p10 p (Bf.bf (GG ss) 0 j) j) x = some (.tuple ((brs ss u).map eB), x) := fCall_eq (aCons2 rfl h5) (law_branches_eq hu.1 hu.2)
      have h7 : fSeq (fCall m_law_branches (aCons (fVar 2) (aCons (fBin gAt (fBor 12) (fBor 13)) aNil))) (oE (eX n ss) p3 p4 p5 p6 p7 p8 p9 p10 p (Bf.bf (GG ss) 0 j) j) x = some ((brs ss u).map eB, x) := by simp only [fSeq, h6]
      have hb2 := brs_len k hu
      obtain ⟨q, e⟩ := o_inner (X := eX n ss) (p3 := p3) (p4 := p4) (p5 := p5) (p6 := p6) (p7 := p7) (p8 := p8) (p9 := p9) (p10 := p10) (c := j) x (brs ss u) (Bf.bf (GG ss) 0 j) (by have := hO j; omega) p
      refine ⟨oE (eX n ss) p3 p4 p5 p6 p7 p8 p9 p10 q (Bf.bf (GG ss) 0 (j + 1)) (j + 1 : Nat), ?_, q, rfl⟩
      unfold oB
      rw [sSeq_nx (by simp only [sFor, h7]; exact e), hstep]
      exact sSet_va (fBin_eq (d := .int j) (e := .int 1) rfl rfl rfl)) (by
    rintro _ ⟨p, rfl⟩
    have : decide ((stop : Int) < ((Bf.bf (GG ss) 0 stop).length : Int)) = false := by
      simp only [decide_eq_false_iff_not]; omega
    simp only [oT, tAndF, tst, this]) 1000 0 (oE (eX n ss) p3 p4 p5 p6 p7 p8 p9 p10 p11 [0] 0) ⟨_, rfl⟩ (by omega) (by omega)
  subst h2
  rw [Bf.ord_end W hv hs2] at h1
  exact ⟨p, stop, h1⟩
end
end Lw

namespace Lw
open PySem RT
theorem idxD_int (t : Int) : ∀ O : List Int, t ∈ O → idxD (.int t) (O.map .int) = some (O.idxOf t)
  | [], h => by simp at h
  | a :: O, h => by
    by_cases c : a = t
    · subst c
      simp [idxD, eqD, D.py, PyData.eqv]
    · have ht : t ∈ O := by
        rcases List.mem_cons.mp h with h | h
        · exact absurd h.symm c
        · exact h
      have hbe : (a == t) = false := by simp [c]
      have ih := idxD_int t O ht
      simp [idxD, eqD, D.py, PyData.eqv, hbe, ih, List.idxOf_cons]
section
variable {n : Int} {ss : List Sc}
def dE (X : D) (p3 p4 p5 p6 p7 p8 p9 p10 p11 : FSl) (O : List Int) (p13 : FSl) (due : List D) (p15 : FSl) : FEn := lE X p3 p4 p5 p6 p7 p8 p9 p10 p11 (.va (il O)) p13 (.ow (.lst due)) p15 .no .no
abbrev dLc : FE := fOfX (xLc (fSeq (fBin gAt (fBor 15) (fC (.int 1)))) (gtName 11) tYesF (fBin gAdd (fSl (fBor 11) oNone (oSome (fC (.int 2)))) (fTup (aCons (fIndex (fBor 12) (fBin gAt (fBor 11) (fC (.int 2)))) aNil))) [11])
abbrev dIf : FE := fIf (fTst (fBin gIsN (fBor 15) (fC .none))) (fC .none) (fTup (aCons (fBin gAt (fBor 15) (fC (.int 0))) (aCons (fCall gTupOf (aCons dLc aNil)) aNil)))
abbrev dBody : FS := sSeq (sSet 15 (xVal (fBin gAt (fBin gAt (fBor 2) (fC (.int 1))) (fBor 4)))) (sApp 14 dIf)
theorem due_el {p3 p4 p5 p6 p7 p8 p9 p10 p11 p13 : FSl} {O : List Int} {due : List D} {sc : Sc} (hO : O.length ≤ 100) (h2 : (bsOf sc).length ≤ 2) (h : ∀ b ∈ bsOf sc, b.2.2 ∈ O) (x : FRow) :
    dIf (dE (eX n ss) p3 p4 p5 p6 p7 p8 p9 p10 p11 O p13 due (.va (eS sc))) x = some (eS (rn O sc), x) := by
  have c1 : fTst (fBin gIsN (fBor 15) (fC .none)) (dE (eX n ss) p3 p4 p5 p6 p7 p8 p9 p10 p11 O p13 due (.va (eS sc))) x = some (sc.isNone, x) := by
    have := fBin_eq (gd := gIsN) (fa := fBor 15) (fb := fC .none) (env := dE (eX n ss) p3 p4 p5 p6 p7 p8 p9 p10 p11 O p13 due (.va (eS sc))) (x := x) (d := eS sc) rfl rfl (none_eS sc)
    simp only [fTst, this]
  cases sc with
  | none => simp only [dIf, fIf, c1, Option.isNone_none, rn, eS]; rfl
  | some p =>
    obtain ⟨s, bs⟩ := p
    simp only [bsOf] at h2 h
    have l1 : dLc (dE (eX n ss) p3 p4 p5 p6 p7 p8 p9 p10 p11 O p13 due (.va (eS (some (s, bs))))) x = some (.list (bs.map fun b => eB (b.1, b.2.1, Bf.idx O b.2.2)), x) := by
      refine lc_eq (ds := bs.map eB) ?_ (compL_map eB (fun b => eB (b.1, b.2.1, Bf.idx O b.2.2)) bs fun b hb => ⟨_, rfl, rfl, ?_⟩) (nob _ (by rw [List.length_map]; omega))
      · have := fBin_eq (gd := gAt) (fa := fBor 15) (fb := fC (.int 1)) (env := dE (eX n ss) p3 p4 p5 p6 p7 p8 p9 p10 p11 O p13 due (.va (eS (some (s, bs))))) (x := x) (d := eS (some (s, bs))) (r := .tuple (bs.map eB)) rfl rfl (by simp [eS, gAt, atI_z1])
        simp only [fSeq, this]
      · generalize hE : (wipeE (dE (eX n ss) p3 p4 p5 p6 p7 p8 p9 p10 p11 O p13 due (.va (eS (some (s, bs))))) [11]).set 11 (.va (eB b)) = E
        have b11 : fBor 11 E x = some (eB b, x) := by rw [← hE]; rfl
        have b12 : fBor 12 E x = some (il O, x) := by rw [← hE]; rfl
        have a2 : fBin gAt (fBor 11) (fC (.int 2)) E x = some (.int b.2.2, x) := fBin_eq b11 rfl (eB_2 b)
        have ix : fIndex (fBor 12) (fBin gAt (fBor 11) (fC (.int 2))) E x = some (.int (Bf.idx O b.2.2), x) := by
          unfold fIndex
          refine fBin_eq b12 a2 ?_
          simp only [il, sh_ints, sh_int, Bool.and_self, if_true, idxD_int b.2.2 O (h b hb), Bf.idx]
        have t1 := fTup_ok (aCons1 ix) (ml 1 (by omega))
        have s1 : fSl (fBor 11) oNone (oSome (fC (.int 2))) E x = some (.tuple [.int b.1, .int b.2.1], x) := by
          have hc := cut2 b
          simp only [fSl, b11, oNone, oSome, fC, eB, gSl, hc]
        exact fBin_cat s1 t1 (ml 3 (by omega))
    have t0 : fBin gAt (fBor 15) (fC (.int 0)) (dE (eX n ss) p3 p4 p5 p6 p7 p8 p9 p10 p11 O p13 due (.va (eS (some (s, bs))))) x = some (.int s, x) := fBin_eq (d := eS (some (s, bs))) rfl rfl (by simp [eS, gAt, atI_z0])
    have t2 := fTup_ok (aCons2 t0 (tupOf_ok l1)) (ml 2 (by omega))
    simp only [dIf, fIf, c1, Option.isNone_some, t2]
    simp only [rn, eS, List.map_map, Function.comp_def]
theorem due_loop (k : Ok n ss) {p3 p5 p6 p7 p8 p9 p10 p11 p13 : FSl} {O : List Int} (hO : O = OO ss 0) (x : FRow) : ∀ (l : List Int), (∀ v ∈ l, v ∈ O) → ∀ (due : List D) (p4 p15 : FSl), due.length + l.length ≤ 100 → ∃ p4' p15', forL (gtName 4) dBody (l.map .int) (dE (eX n ss) p3 p4 p5 p6 p7 p8 p9 p10 p11 O p13 due p15) x = some (.nx (dE (eX n ss) p3 p4' p5 p6 p7 p8 p9 p10 p11 O p13 (due ++ l.map fun v => eS (rn O (scAt ss v))) p15'), x)
  | [], _, due, p4, p15, _ => ⟨p4, p15, by simp [forL]⟩
  | v :: l, hl, due, p4, p15, hlen => by
    simp only [List.length_cons] at hlen
    have hv : v ∈ OO ss 0 := by rw [← hO]; exact hl v (by simp)
    have hv' := OO_in k k.z v hv
    have hOl : O.length ≤ 100 := by rw [hO]; have := OO_len k k.z; omega
    have el := due_el (n := n) (ss := ss) (p3 := p3) (p4 := .va (.int v)) (p5 := p5) (p6 := p6) (p7 := p7) (p8 := p8) (p9 := p9) (p10 := p10) (p11 := p11) (p13 := p13) (due := due) (sc := scAt ss v) hOl (k.bsl (scAt_mem hv'.1 hv'.2).2) (by rw [hO]; exact O_to k hv) x
    obtain ⟨p4', p15', e⟩ := due_loop k (p3 := p3) (p5 := p5) (p6 := p6) (p7 := p7) (p8 := p8) (p9 := p9) (p10 := p10) (p11 := p11) (p13 := p13) hO x l (fun u hu => hl u (by simp [hu])) (due ++ [eS (rn O (scAt ss v))]) (.va (.int v)) (.va (eS (scAt ss v))) (by simp only [List.length_append, List.length_cons, List.length_nil]; omega)
    refine ⟨p4', p15', ?_⟩
    have c1 : sSet 15 (xVal (fBin gAt (fBin gAt (fBor 2) (fC (.int 1))) (fBor 4))) (dE (eX n ss) p3 (.va (.int v)) p5 p6 p7 p8 p9 p10 p11 O p13 due p15) x = some (.nx (dE (eX n ss) p3 (.va (.int v)) p5 p6 p7 p8 p9 p10 p11 O p13 due (.va (eS (scAt ss v)))), x) :=
      sSet_va (fBin_eq (fBin_eq (d := eX n ss) rfl rfl (eX_1 n ss)) rfl (eX_at (n := n) hv'.1 hv'.2))
    have hd : due.length < maxLen := nob _ (by omega)
    have c2 : sApp 14 dIf (dE (eX n ss) p3 (.va (.int v)) p5 p6 p7 p8 p9 p10 p11 O p13 due (.va (eS (scAt ss v)))) x = some (.nx (dE (eX n ss) p3 (.va (.int v)) p5 p6 p7 p8 p9 p10 p11 O p13 (due ++ [eS (rn O (scAt ss v))]) (.va (eS (scAt ss v)))), x) := by
      simp only [sApp, el]
      rw [show (dE (eX n ss) p3 (.va (.int v)) p5 p6 p7 p8 p9 p10 p11 O p13 due (.va (eS (scAt ss v))))[14]? = some (.ow (.lst due)) from rfl]
      simp only [if_pos hd]
      rfl
    rw [List.map_cons, forL]
    simp only [gtName]
    rw [show (dE (eX n ss) p3 p4 p5 p6 p7 p8 p9 p10 p11 O p13 due p15).set 4 (.va (.int v)) = dE (eX n ss) p3 (.va (.int v)) p5 p6 p7 p8 p9 p10 p11 O p13 due p15 from rfl]
    have c3 : dBody (dE (eX n ss) p3 (.va (.int v)) p5 p6 p7 p8 p9 p10 p11 O p13 due p15) x = _ := (sSeq_nx c1).trans c2
    rw [c3]
    simp only [e, List.map_cons, List.append_assoc, List.cons_append, List.nil_append]
/-- the comparisons -/
theorem lat_mem (k : Ok n ss) {v u : Int} : u ∈ lat ss v ↔ ∃ b ∈ brs ss v, u ∈ OO ss b.2.2 := by
  simp only [lat, List.mem_flatMap, (sortI_perm _).mem_iff]
theorem hasR_eq (k : Ok n ss) : (RR ss).any (fun v => decide (v ∈ lat ss v)) = hasR ss := by
  rw [Bool.eq_iff_iff]
  simp only [hasR, List.any_eq_true, decide_eq_true_eq, lat_mem k, RR_mem]
theorem allE_eq (k : Ok n ss) : (RR ss).all (stops ss ((RR ss).filter (isEnd ss))) = allE ss := by
  rw [Bool.eq_iff_iff]
  simp only [allE, List.all_eq_true, RR_mem]
  refine forall_congr' fun v => imp_congr_right fun hv => ?_
  simp only [stops, Bool.not_eq_true', List.isEmpty_eq_false_iff_exists_mem, List.mem_filter, (sortI_perm _).mem_iff, decide_eq_true_eq, RR_mem, List.any_eq_true]
  constructor
  · rintro ⟨u, h1, h2, h3⟩; exact ⟨u, h1, h3⟩
  · rintro ⟨u, h1, h3⟩; exact ⟨u, h1, Bf.ord_trans k.web k.z hv h1, h3⟩
theorem TT_mem (z : Br) : z ∈ TT ss ↔ ∃ v ∈ RR ss, ∃ b ∈ brs ss v, z = (spk (scAt ss v), b.1, b.2.1) := by
  simp only [TT, tks, List.mem_flatMap, List.mem_map, eq_comm]
theorem speak_eq {F : List Int} (hF : F.Nodup) (h : ∀ z, z ∈ F ↔ z ∈ ([] : List Int) ∨ ∃ v ∈ RR ss, ∃ b ∈ brs ss v, z = spk (scAt ss v)) : sortI F = setI ((TT ss).map (·.1)) := by
  refine lt_uniq (le_nd_lt (sortI_sorted _) ((sortI_perm _).nodup_iff.mpr hF)) (setI_lt _) fun z => ?_
  rw [(sortI_perm _).mem_iff, setI_mem, h, List.mem_map]
  simp only [List.not_mem_nil, false_or]
  constructor
  · rintro ⟨v, hv, b, hb, rfl⟩; exact ⟨_, (TT_mem _).mpr ⟨v, hv, b, hb, rfl⟩, rfl⟩
  · rintro ⟨t, ht, rfl⟩; obtain ⟨v, hv, b, hb, rfl⟩ := (TT_mem _).mp ht; exact ⟨v, hv, b, hb, rfl⟩
theorem busy_eq {A : List Int} (h : ∀ z, z ∈ A ↔ z ∈ ([] : List Int) ∨ ∃ v ∈ RR ss, ∃ b ∈ brs ss v, z = spk (scAt ss v) ∨ z = b.1) (z : Int) : z ∈ A ↔ z ∈ (TT ss).flatMap fun t => [t.1, t.2.1] := by
  rw [h, List.mem_flatMap]
  simp only [List.not_mem_nil, false_or, List.mem_cons, or_false]
  constructor
  · rintro ⟨v, hv, b, hb, hz⟩; exact ⟨_, (TT_mem _).mpr ⟨v, hv, b, hb, rfl⟩, hz⟩
  · rintro ⟨t, ht, hz⟩; obtain ⟨v, hv, b, hb, rfl⟩ := (TT_mem _).mp ht; exact ⟨v, hv, b, hb, hz⟩
end
end Lw

namespace Lw
open PySem RT
theorem fCallR_eq {i : Nat} {m : List D → FRow → Option (D × FRow)} {fa : FA} {env : FEn} {x x1 x2 : FRow} {ds : List D} {r : D} (he : env[i]? = some .rw) (h : fa env x = some (ds, x1)) (hm : m ds x1 = some (r, x2)) : fCallR i m fa env x = some (r, x2) := by
  simp only [fCallR, he, h, hm]
theorem aCons_eq {f : FE} {t : FA} {env : FEn} {x x1 x2 : FRow} {d : D} {ds : List D} (h : f env x = some (d, x1)) (h' : t env x1 = some (ds, x2)) : aCons f t env x = some (d :: ds, x2) := by
  simp only [aCons, h, h']
theorem alike_c {fa fb : FE} {env : FEn} {x : FRow} {d : D} (h : fa env x = some (d, x)) (h' : fb env x = some (d, x)) (hp : Pt 5 d) : fCall (m_law_alike 9) (aCons fa (aCons fb aNil)) env x = some (.bool true, x) := fCall_eq (aCons2 h h') (alike9 hp)
theorem alike_t {fa fb : FE} {env : FEn} {x : FRow} {d : D} (h : fa env x = some (d, x)) (h' : fb env x = some (d, x)) (hp : Pt 5 d) : tNotF (fTru (fCall (m_law_alike 9) (aCons fa (aCons fb aNil)))) env x = some (false, x) := by
  have := alike_c h h' hp
  simp only [tNotF, fTru, this, truD, Bool.not_true]
theorem if_no {t : FT} {f : FS} {env : FEn} {x : FRow} (h : t env x = some (false, x)) : sIf t f sNil env x = some (.nx env, x) := by
  simp only [sIf, h, sNil]
theorem or_no {t u : FT} {env : FEn} {x : FRow} (h : t env x = some (false, x)) (h' : u env x = some (false, x)) : tOrF t u env x = some (false, x) := by
  simp only [tOrF, h, h']
theorem prog {m : List D → Option D} {i : Nat} {env : FEn} {x : FRow} {d r : D} (h : fVar i env x = some (d, x)) (hm : m [d] = some r) : fCall m (aCons (fVar i) aNil) env x = some (r, x) := fCall_eq (aCons1 h) hm
theorem pt_b (b : Bool) : Pt 5 (.bool b) := Pt.le (k := 0) (Or.inr (Or.inr ⟨b, rfl⟩)) (by omega)
theorem for_eq {f : FA} {gt : FGt} {b : FS} {env : FEn} {x x1 : FRow} {ds : List D} {r : Option (FRs × FRow)} (h : f env x = some (ds, x1)) (hr : forL gt b ds env x1 = r) : sFor f gt b env x = r := by
  simp only [sFor, h, hr]
theorem seq_il {f : FE} {env : FEn} {x x1 : FRow} {l : List Int} (h : f env x = some (il l, x1)) : fSeq f env x = some (l.map .int, x1) := by
  simp only [fSeq, h, il]
theorem xLst_ok {t : FA} {env : FEn} {x x1 : FRow} {ds : List D} (h : t env x = some (ds, x1)) (hl : ds.length ≤ maxLen) : xLst t env x = some (.ow (.lst ds), x1) := by
  simp only [xLst, h, if_pos hl]
theorem law_run {x0 : FRow} (h0 : 0 ≤ x0.a) : ∃ x', b_law (.no :: .rw :: List.replicate 16 .no) x0 = some (.rt (.bool true), x') := by
  obtain ⟨r1, x1, t1, ta, tb, hx1⟩ := taken_ok (many := 3) h0 (by omega) (by omega)
  obtain ⟨r2, x2, u1, ua, ub, hx2⟩ := taken_ok (many := 2) hx1 (by omega) (by omega)
  obtain ⟨ss, x, sc, _, k⟩ := script_ok (n := 2 + r1) (lp := decide (r2 = 0)) (by omega) hx2
  have a0 : fBin gAdd (fC (.int 2)) (fCallR 1 m_law_taken (aCons (fC (.int 3)) aNil)) (.no :: .rw :: List.replicate 16 .no) x0 = some (.int (2 + r1), x1) :=
    fBin_eq rfl (fCallR_eq rfl (aCons1 rfl) t1) rfl
  have a1 : fBin gEq (fCallR 1 m_law_taken (aCons (fC (.int 2)) aNil)) (fC (.int 0)) (.no :: .rw :: List.replicate 16 .no) x1 = some (.bool (decide (r2 = 0)), x2) :=
    fBin_eq (fCallR_eq rfl (aCons1 rfl) u1) rfl (eq_int r2 0)
  generalize 2 + r1 = n at sc k a0
  generalize decide (r2 = 0) = lp at sc a1
  have c1 : sSet 2 (xVal (fCallR 1 m_law_script (aCons (fBin gAdd (fC (.int 2)) (fCallR 1 m_law_taken (aCons (fC (.int 3)) aNil))) (aCons (fC (.int 6)) (aCons (fBin gEq (fCallR 1 m_law_taken (aCons (fC (.int 2)) aNil)) (fC (.int 0))) aNil))))) (.no :: .rw :: List.replicate 16 .no) x0 = some (.nx (lE (eX n ss) .no .no .no .no .no .no .no .no .no .no .no .no .no .no .no), x) :=
    sSet_va (fCallR_eq rfl (aCons_eq a0 (aCons_eq rfl (aCons1 a1))) sc)
  have c2 : sSet 3 (xVal (fCall m_law_coming (aCons (fVar 2) (aCons (fC (.int 0)) aNil)))) (lE (eX n ss) .no .no .no .no .no .no .no .no .no .no .no .no .no .no .no) x = some (.nx (lE (eX n ss) (.va (il (RR ss))) .no .no .no .no .no .no .no .no .no .no .no .no .no .no), x) :=
    sSet_va (fCall_eq (aCons2 rfl rfl) (law_coming_eq k k.z))
  have c3a : fOfX (xLc (fSeq (fVar 3)) (gtName 4) (fTst (fBin gIsN (fBin gAt (fBin gAt (fBor 2) (fC (.int 1))) (fBor 4)) (fC .none))) (fVar 4) [4]) (lE (eX n ss) (.va (il (RR ss))) .no .no .no .no .no .no .no .no .no .no .no .no .no .no) x = some (il ((RR ss).filter (isEnd ss)), x) := by
    refine lc_eq (ds := (RR ss).map .int) (seq_il rfl) (compL_gen D.int (isEnd ss) D.int (RR ss) fun u hu => ⟨_, rfl, ?_, fun _ => rfl⟩) ?_
    · have hu' := RR_in k u hu
      generalize hE : (wipeE (lE (eX n ss) (.va (il (RR ss))) .no .no .no .no .no .no .no .no .no .no .no .no .no .no) [4]).set 4 (.va (.int u)) = E
      have b2 : fBor 2 E x = some (eX n ss, x) := by rw [← hE]; rfl
      have b4 : fBor 4 E x = some (.int u, x) := by rw [← hE]; rfl
      have := fBin_eq (fb := fC .none) (x2 := x) (fBin_eq (fBin_eq (fb := fC (.int 1)) (x2 := x) b2 rfl (eX_1 n ss)) b4 (eX_at (n := n) hu'.1 hu'.2)) rfl (none_eS (scAt ss u))
      simp only [fTst, this, isEnd]
    · have := RR_len k; have := List.length_filter_le (isEnd ss) (RR ss)
      exact nob _ (by rw [List.length_map]; omega)
  generalize hEn : (RR ss).filter (isEnd ss) = En at c3a
  have c3 := sSet_va (i := 5) c3a
  rw [show (lE (eX n ss) (.va (il (RR ss))) .no .no .no .no .no .no .no .no .no .no .no .no .no .no).set 5 (.va (il En)) = lE (eX n ss) (.va (il (RR ss))) .no (.va (il En)) .no .no .no .no .no .no .no .no .no .no .no .no from rfl] at c3
  have hRl := RR_len k
  have ptR : Pt 5 (.tuple ((RR ss).map .int)) := (pt_ints (by omega)).le (by omega)
  have ptE : Pt 5 (.tuple (En.map .int)) := by
    refine (pt_ints ?_).le (by omega)
    rw [← hEn]; have := List.length_filter_le (isEnd ss) (RR ss); omega
  have eqE := end_eq k
  rw [hEn] at eqE
  have c4 : sIf (tOrF (tNotF (fTru (fCall (m_law_alike 9) (aCons (fCall m_reached_scenes (aCons (fVar 2) aNil)) (aCons (fCall gTupOf (aCons (fBor 3) aNil)) aNil))))) (tNotF (fTru (fCall (m_law_alike 9) (aCons (fCall m_end_scenes (aCons (fVar 2) aNil)) (aCons (fCall gTupOf (aCons (fBor 5) aNil)) aNil)))))) (sRet (fC (.bool false))) sNil (lE (eX n ss) (.va (il (RR ss))) .no (.va (il En)) .no .no .no .no .no .no .no .no .no .no .no .no) x = some (.nx (lE (eX n ss) (.va (il (RR ss))) .no (.va (il En)) .no .no .no .no .no .no .no .no .no .no .no .no), x) :=
    if_no (or_no (alike_t (prog rfl (reached_eq k)) (tupOf_ok rfl) ptR) (alike_t (prog rfl eqE) (tupOf_ok rfl) ptE))
  have c5 : sPars [6, 7, 8, 9] (xsCons (xVal (fC (.bool false))) (xsCons (xVal (fC (.bool true))) (xsCons (xNew (.dk [])) (xsCons (xNew (.dk [])) xsNil)))) (lE (eX n ss) (.va (il (RR ss))) .no (.va (il En)) .no .no .no .no .no .no .no .no .no .no .no .no) x = some (.nx (bG (eX n ss) (RR ss) En .no false true [] [] .no .no), x) := rfl
  obtain ⟨A, F, s4, s10, s11, e6, nA, nF, lA, lF, qA, qF⟩ := big_loop k (R := RR ss) (En := En) x (RR ss) (RR_in k) [] [] false true .no .no .no .nil .nil (by simp; omega) (by simp; omega)
  have e7 : (false || (RR ss).any fun v => decide (v ∈ lat ss v)) = hasR ss := by rw [Bool.false_or, hasR_eq k]
  have e8 : (true && (RR ss).all (stops ss En)) = allE ss := by rw [Bool.true_and, ← hEn, allE_eq k]
  rw [e7, e8] at e6
  have c6 := for_eq (f := fSeq (fVar 3)) (seq_il (l := RR ss) rfl) e6
  have c7 : sIf (tOrF (tNotF (fTru (fCall (m_law_alike 9) (aCons (fCall m_has_rounds (aCons (fVar 2) aNil)) (aCons (fVar 6) aNil))))) (tNotF (fTru (fCall (m_law_alike 9) (aCons (fCall m_always_ends (aCons (fVar 2) aNil)) (aCons (fVar 7) aNil)))))) (sRet (fC (.bool false))) sNil (bG (eX n ss) (RR ss) En s4 (hasR ss) (allE ss) A F s10 s11) x = some (.nx (bG (eX n ss) (RR ss) En s4 (hasR ss) (allE ss) A F s10 s11), x) :=
    if_no (or_no (alike_t (prog rfl (rounds_eq k)) rfl (pt_b _)) (alike_t (prog rfl (ends_eq k)) rfl (pt_b _)))
  have hsp := speakers_eq k
  rw [← speak_eq nF qF] at hsp
  have ptS : Pt 5 (.tuple ((sortI F).map .int)) := (pt_ints (by rw [(sortI_perm F).length_eq]; omega)).le (by omega)
  have c8 : sIf (tNotF (fTru (fCall (m_law_alike 9) (aCons (fCall m_speakers (aCons (fVar 2) aNil)) (aCons (fCall gTupOf (aCons (fCall gSort (aCons (fCall gListOf (aCons (fBor 9) aNil)) aNil)) aNil)) aNil))))) (sRet (fC (.bool false))) sNil (bG (eX n ss) (RR ss) En s4 (hasR ss) (allE ss) A F s10 s11) x = some (.nx (bG (eX n ss) (RR ss) En s4 (hasR ss) (allE ss) A F s10 s11), x) := by
    have l1 : fCall gListOf (aCons (fBor 9) aNil) (bG (eX n ss) (RR ss) En s4 (hasR ss) (allE ss) A F s10 s11) x = some (.list (F.map .int), x) := fCall_eq (aCons1 (d := .dict (dS F)) rfl) (by rw [← dS_keys]; rfl)
    have l2 := fCall_eq (aCons1 l1) (sort_eq F)
    exact if_no (alike_t (prog rfl hsp) (tupOf_ok l2) ptS)
  have hsi := silent_eq k
  have hfl : ((List.range n.toNat).map fun (i : Nat) => (i : Int)).filter (fun a => !decide (a ∈ (TT ss).flatMap fun t => [t.1, t.2.1])) = ((List.range n.toNat).map fun (i : Nat) => (i : Int)).filter (fun a => !decide (a ∈ A)) := by
    refine List.filter_congr fun a _ => ?_
    simp only [busy_eq qA a]
  rw [hfl] at hsi
  have hn := k.n2
  have hsl : (((List.range n.toNat).map fun (i : Nat) => (i : Int)).filter (fun a => !decide (a ∈ A))).length ≤ 4 := by
    have := List.length_filter_le (fun a => !decide (a ∈ A)) ((List.range n.toNat).map fun (i : Nat) => (i : Int))
    rw [List.length_map, List.length_range] at this; omega
  have ptI : Pt 5 (.tuple ((((List.range n.toNat).map fun (i : Nat) => (i : Int)).filter (fun a => !decide (a ∈ A))).map .int)) := (pt_ints (by omega)).le (by omega)
  have c9 : sIf (tNotF (fTru (fCall (m_law_alike 9) (aCons (fCall m_silent (aCons (fVar 2) aNil)) (aCons (fCall gTupOf (aCons (fOfX (xLc (fRg1 (fBin gAt (fBor 2) (fC (.int 0)))) (gtName 17) (fTst (fBin gNotInA (fBor 17) (fBor 8))) (fVar 17) [17])) aNil)) aNil))))) (sRet (fC (.bool false))) sNil (bG (eX n ss) (RR ss) En s4 (hasR ss) (allE ss) A F s10 s11) x = some (.nx (bG (eX n ss) (RR ss) En s4 (hasR ss) (allE ss) A F s10 s11), x) := by
    have ho : okRg n = true := by simp only [okRg, decide_eq_true_eq]; omega
    have l1 : fOfX (xLc (fRg1 (fBin gAt (fBor 2) (fC (.int 0)))) (gtName 17) (fTst (fBin gNotInA (fBor 17) (fBor 8))) (fVar 17) [17]) (bG (eX n ss) (RR ss) En s4 (hasR ss) (allE ss) A F s10 s11) x = some (.list ((((List.range n.toNat).map fun (i : Nat) => (i : Int)).filter (fun a => !decide (a ∈ A))).map .int), x) := by
      refine lc_eq (ds := ((List.range n.toNat).map fun (i : Nat) => (i : Int)).map D.int) ?_ (compL_gen D.int (fun a => !decide (a ∈ A)) D.int _ fun u hu => ⟨_, rfl, ?_, fun _ => rfl⟩) (nob _ (by rw [List.length_map]; omega))
      · have := fBin_eq (gd := gAt) (fa := fBor 2) (fb := fC (.int 0)) (env := bG (eX n ss) (RR ss) En s4 (hasR ss) (allE ss) A F s10 s11) (x := x) (x2 := x) rfl rfl (eX_0 n ss)
        rw [← rg_map (by omega)]
        simp only [fRg1, this, ho, if_true]
      · have := fBin_eq (gd := gNotInA) (fa := fBor 17) (fb := fBor 8) (env := (wipeE (bG (eX n ss) (RR ss) En s4 (hasR ss) (allE ss) A F s10 s11) [17]).set 17 (.va (.int u))) (x := x) (d := .int u) (e := .dict (dS A)) rfl rfl (dS_notin u A)
        simp only [fTst, this]
    exact if_no (alike_t (prog rfl hsi) (tupOf_ok l1) ptI)
  have c10 : sPars [12, 13] (xsCons (xVal (fLst (aCons (fC (.int 0)) aNil))) (xsCons (xVal (fC (.int 0))) xsNil)) (bG (eX n ss) (RR ss) En s4 (hasR ss) (allE ss) A F s10 s11) x = some (.nx (oE (eX n ss) (.va (il (RR ss))) s4 (.va (il En)) (.va (.bool (hasR ss))) (.va (.bool (allE ss))) (.ow (.dk (dS A))) (.ow (.dk (dS F))) s10 s11 [0] 0), x) := by
    have l1 : fLst (aCons (fC (.int 0)) aNil) (bG (eX n ss) (RR ss) En s4 (hasR ss) (allE ss) A F s10 s11) x = some (il [0], x) := fLst_ok (aCons1 rfl) (ml 1 (by omega))
    have l2 : xsCons (xVal (fLst (aCons (fC (.int 0)) aNil))) (xsCons (xVal (fC (.int 0))) xsNil) (bG (eX n ss) (RR ss) En s4 (hasR ss) (allE ss) A F s10 s11) x = some ([.va (il [0]), .va (.int 0)], x) := by
      simp only [xsCons, xVal, l1, fC, xsNil]
    simp only [sPars, l2, List.length_cons, List.length_nil, if_true]
    rfl
  obtain ⟨p11, c, c11⟩ := o_loop k (p3 := .va (il (RR ss))) (p4 := s4) (p5 := .va (il En)) (p6 := .va (.bool (hasR ss))) (p7 := .va (.bool (allE ss))) (p8 := .ow (.dk (dS A))) (p9 := .ow (.dk (dS F))) (p10 := s10) (p11 := s11) x
  have c12 : sSet 14 (xLst aNil) (oE (eX n ss) (.va (il (RR ss))) s4 (.va (il En)) (.va (.bool (hasR ss))) (.va (.bool (allE ss))) (.ow (.dk (dS A))) (.ow (.dk (dS F))) s10 p11 (OO ss 0) c) x = some (.nx (dE (eX n ss) (.va (il (RR ss))) s4 (.va (il En)) (.va (.bool (hasR ss))) (.va (.bool (allE ss))) (.ow (.dk (dS A))) (.ow (.dk (dS F))) s10 p11 (OO ss 0) (.va (.int c)) [] .no), x) := by
    have l1 : xLst aNil (oE (eX n ss) (.va (il (RR ss))) s4 (.va (il En)) (.va (.bool (hasR ss))) (.va (.bool (allE ss))) (.ow (.dk (dS A))) (.ow (.dk (dS F))) s10 p11 (OO ss 0) c) x = some (.ow (.lst []), x) := xLst_ok rfl (ml 0 (by omega))
    simp only [sSet, l1]
    rfl
  have hOl := OO_len k k.z
  obtain ⟨q4, q15, e13⟩ := due_loop k (p3 := .va (il (RR ss))) (p5 := .va (il En)) (p6 := .va (.bool (hasR ss))) (p7 := .va (.bool (allE ss))) (p8 := .ow (.dk (dS A))) (p9 := .ow (.dk (dS F))) (p10 := s10) (p11 := p11) (p13 := .va (.int c)) (O := OO ss 0) rfl x (OO ss 0) (fun v hv => hv) [] s4 .no (by simp; omega)
  have c13 := for_eq (f := fSeq (fVar 12)) (seq_il (l := OO ss 0) rfl) e13
  have hdue : ([] : List D) ++ (OO ss 0).map (fun v => eS (rn (OO ss 0) (scAt ss v))) = (trim ss).map eS := by
    rw [trim_def ss, List.map_map, List.nil_append]; rfl
  rw [hdue] at c13
  generalize hE : dE (eX n ss) (.va (il (RR ss))) q4 (.va (il En)) (.va (.bool (hasR ss))) (.va (.bool (allE ss))) (.ow (.dk (dS A))) (.ow (.dk (dS F))) s10 p11 (OO ss 0) (.va (.int c)) ((trim ss).map eS) q15 = E at c13
  have v2 : fVar 2 E x = some (eX n ss, x) := by rw [← hE]; rfl
  have b2 : fBor 2 E x = some (eX n ss, x) := by rw [← hE]; rfl
  have b14 : fBor 14 E x = some (.list ((trim ss).map eS), x) := by rw [← hE]; rfl
  have ko := trim_ok k
  have ptT := pt_eX ko
  have tr1 := prog v2 (trimmed_eq k)
  have tr2 := fCall_eq (aCons1 tr1) (trimmed_eq ko)
  rw [trim_trim k] at tr2
  have w1 := fTup_ok (aCons2 (fBin_eq (fb := fC (.int 0)) (x2 := x) b2 rfl (eX_0 n ss)) (tupOf_ok b14)) (ml 2 (by omega))
  have w2 := alike_c tr1 w1 ptT
  have w3 := fBin_eq tr2 tr1 (ptT.rf (by omega))
  have w4 := fAnd_eq w2 w3
  refine ⟨x, ?_⟩
  unfold b_law
  rw [sSeq_nx c1, sSeq_nx c2, sSeq_nx c3, sSeq_nx c4, sSeq_nx c5, sSeq_nx c6, sSeq_nx c7, sSeq_nx c8, sSeq_nx c9, sSeq_nx c10, sSeq_nx c11, sSeq_nx c12, sSeq_nx c13]
  simp only [sRet, w4, Bool.and_self]
theorem main (ns : List Int) (h : ns.length ≤ 63) : ∃ x', b_law (.no :: .rw :: List.replicate 16 .no) ⟨ns, 0, 10100, 0⟩ = some (.rt (.bool true), x') :=
  law_run (by simp)
end Lw

namespace Lw
open PySem PySem.Spec PyProof.Rows L2 RT
section
theorem all_mk {l : PySem.W.OpenLaw} {w : World} {K : PySem.W.Frag} {h : Heap} {mg : Str → Option Value} {fa : Addr} (X : K.In h) (G : h.Ns mainGlobals mg) (hfa : mg "law" = some (.ref fa))
    {od_law_taken an_law_taken : Option Addr} {sl_law_taken : Array (Option Value)} {oc_law_taken kV_law_taken dc_law_taken pm_law_taken cd_law_taken ct_law_taken : Value} {f_law_taken : Addr}
    (a_law_taken : PySem.W.nsIn K mainGlobals "_law_taken" = some (some (.ref f_law_taken))) (l_law_taken : K.lookup f_law_taken = some ⟨oc_law_taken, od_law_taken, .func (PySem.W.fnOf "_law_taken" "_law_taken" (defArgs s_law_taken) (defBody s_law_taken) (defScope s_law_taken) .none kV_law_taken dc_law_taken pm_law_taken an_law_taken cd_law_taken ct_law_taken), sl_law_taken⟩) (c_law_taken : PySem.W.codeIn K cd_law_taken "_law_taken" = true) (k_law_taken : PySem.W.keepIn K (.ref f_law_taken) = true)
    {od_law_scene an_law_scene : Option Addr} {sl_law_scene : Array (Option Value)} {oc_law_scene kV_law_scene dc_law_scene pm_law_scene cd_law_scene ct_law_scene : Value} {f_law_scene : Addr}
    (a_law_scene : PySem.W.nsIn K mainGlobals "_law_scene" = some (some (.ref f_law_scene))) (l_law_scene : K.lookup f_law_scene = some ⟨oc_law_scene, od_law_scene, .func (PySem.W.fnOf "_law_scene" "_law_scene" (defArgs s_law_scene) (defBody s_law_scene) (defScope s_law_scene) .none kV_law_scene dc_law_scene pm_law_scene an_law_scene cd_law_scene ct_law_scene), sl_law_scene⟩) (c_law_scene : PySem.W.codeIn K cd_law_scene "_law_scene" = true) (k_law_scene : PySem.W.keepIn K (.ref f_law_scene) = true)
    {od_law_script an_law_script : Option Addr} {sl_law_script : Array (Option Value)} {oc_law_script kV_law_script dc_law_script pm_law_script cd_law_script ct_law_script : Value} {f_law_script : Addr}
    (a_law_script : PySem.W.nsIn K mainGlobals "_law_script" = some (some (.ref f_law_script))) (l_law_script : K.lookup f_law_script = some ⟨oc_law_script, od_law_script, .func (PySem.W.fnOf "_law_script" "_law_script" (defArgs s_law_script) (defBody s_law_script) (defScope s_law_script) .none kV_law_script dc_law_script pm_law_script an_law_script cd_law_script ct_law_script), sl_law_script⟩) (c_law_script : PySem.W.codeIn K cd_law_script "_law_script" = true) (k_law_script : PySem.W.keepIn K (.ref f_law_script) = true)
    {od_law_branches an_law_branches : Option Addr} {sl_law_branches : Array (Option Value)} {oc_law_branches kV_law_branches dc_law_branches pm_law_branches cd_law_branches ct_law_branches : Value} {f_law_branches : Addr}
    (a_law_branches : PySem.W.nsIn K mainGlobals "_law_branches" = some (some (.ref f_law_branches))) (l_law_branches : K.lookup f_law_branches = some ⟨oc_law_branches, od_law_branches, .func (PySem.W.fnOf "_law_branches" "_law_branches" (defArgs s_law_branches) (defBody s_law_branches) (defScope s_law_branches) .none kV_law_branches dc_law_branches pm_law_branches an_law_branches cd_law_branches ct_law_branches), sl_law_branches⟩) (c_law_branches : PySem.W.codeIn K cd_law_branches "_law_branches" = true) (k_law_branches : PySem.W.keepIn K (.ref f_law_branches) = true)
    {od_law_coming an_law_coming : Option Addr} {sl_law_coming : Array (Option Value)} {oc_law_coming kV_law_coming dc_law_coming pm_law_coming cd_law_coming ct_law_coming : Value} {f_law_coming : Addr}
    (a_law_coming : PySem.W.nsIn K mainGlobals "_law_coming" = some (some (.ref f_law_coming))) (l_law_coming : K.lookup f_law_coming = some ⟨oc_law_coming, od_law_coming, .func (PySem.W.fnOf "_law_coming" "_law_coming" (defArgs s_law_coming) (defBody s_law_coming) (defScope s_law_coming) .none kV_law_coming dc_law_coming pm_law_coming an_law_coming cd_law_coming ct_law_coming), sl_law_coming⟩) (c_law_coming : PySem.W.codeIn K cd_law_coming "_law_coming" = true) (k_law_coming : PySem.W.keepIn K (.ref f_law_coming) = true)
    {od_law_alike an_law_alike : Option Addr} {sl_law_alike : Array (Option Value)} {oc_law_alike kV_law_alike dc_law_alike pm_law_alike cd_law_alike ct_law_alike : Value} {f_law_alike : Addr}
    (a_law_alike : PySem.W.nsIn K mainGlobals "_law_alike" = some (some (.ref f_law_alike))) (l_law_alike : K.lookup f_law_alike = some ⟨oc_law_alike, od_law_alike, .func (PySem.W.fnOf "_law_alike" "_law_alike" (defArgs s_law_alike) (defBody s_law_alike) (defScope s_law_alike) .none kV_law_alike dc_law_alike pm_law_alike an_law_alike cd_law_alike ct_law_alike), sl_law_alike⟩) (c_law_alike : PySem.W.codeIn K cd_law_alike "_law_alike" = true) (k_law_alike : PySem.W.keepIn K (.ref f_law_alike) = true)
    {od_has_items an_has_items : Option Addr} {sl_has_items : Array (Option Value)} {oc_has_items kV_has_items dc_has_items pm_has_items cd_has_items ct_has_items : Value} {f_has_items : Addr}
    (a_has_items : PySem.W.nsIn K mainGlobals "has_items" = some (some (.ref f_has_items))) (l_has_items : K.lookup f_has_items = some ⟨oc_has_items, od_has_items, .func (PySem.W.fnOf "has_items" "has_items" (defArgs s_has_items) (defBody s_has_items) (defScope s_has_items) .none kV_has_items dc_has_items pm_has_items an_has_items cd_has_items ct_has_items), sl_has_items⟩) (c_has_items : PySem.W.codeIn K cd_has_items "has_items" = true) (k_has_items : PySem.W.keepIn K (.ref f_has_items) = true)
    {od_is_number an_is_number : Option Addr} {sl_is_number : Array (Option Value)} {oc_is_number kV_is_number dc_is_number pm_is_number cd_is_number ct_is_number : Value} {f_is_number : Addr}
    (a_is_number : PySem.W.nsIn K mainGlobals "is_number" = some (some (.ref f_is_number))) (l_is_number : K.lookup f_is_number = some ⟨oc_is_number, od_is_number, .func (PySem.W.fnOf "is_number" "is_number" (defArgs s_is_number) (defBody s_is_number) (defScope s_is_number) .none kV_is_number dc_is_number pm_is_number an_is_number cd_is_number ct_is_number), sl_is_number⟩) (c_is_number : PySem.W.codeIn K cd_is_number "is_number" = true) (k_is_number : PySem.W.keepIn K (.ref f_is_number) = true)
    {od_has_script_form an_has_script_form : Option Addr} {sl_has_script_form : Array (Option Value)} {oc_has_script_form kV_has_script_form dc_has_script_form pm_has_script_form cd_has_script_form ct_has_script_form : Value} {f_has_script_form : Addr}
    (a_has_script_form : PySem.W.nsIn K mainGlobals "has_script_form" = some (some (.ref f_has_script_form))) (l_has_script_form : K.lookup f_has_script_form = some ⟨oc_has_script_form, od_has_script_form, .func (PySem.W.fnOf "has_script_form" "has_script_form" (defArgs s_has_script_form) (defBody s_has_script_form) (defScope s_has_script_form) .none kV_has_script_form dc_has_script_form pm_has_script_form an_has_script_form cd_has_script_form ct_has_script_form), sl_has_script_form⟩) (c_has_script_form : PySem.W.codeIn K cd_has_script_form "has_script_form" = true) (k_has_script_form : PySem.W.keepIn K (.ref f_has_script_form) = true)
    {od_is_rising an_is_rising : Option Addr} {sl_is_rising : Array (Option Value)} {oc_is_rising kV_is_rising dc_is_rising pm_is_rising cd_is_rising ct_is_rising : Value} {f_is_rising : Addr}
    (a_is_rising : PySem.W.nsIn K mainGlobals "is_rising" = some (some (.ref f_is_rising))) (l_is_rising : K.lookup f_is_rising = some ⟨oc_is_rising, od_is_rising, .func (PySem.W.fnOf "is_rising" "is_rising" (defArgs s_is_rising) (defBody s_is_rising) (defScope s_is_rising) .none kV_is_rising dc_is_rising pm_is_rising an_is_rising cd_is_rising ct_is_rising), sl_is_rising⟩) (c_is_rising : PySem.W.codeIn K cd_is_rising "is_rising" = true) (k_is_rising : PySem.W.keepIn K (.ref f_is_rising) = true)
    {od_is_talk an_is_talk : Option Addr} {sl_is_talk : Array (Option Value)} {oc_is_talk kV_is_talk dc_is_talk pm_is_talk cd_is_talk ct_is_talk : Value} {f_is_talk : Addr}
    (a_is_talk : PySem.W.nsIn K mainGlobals "is_talk" = some (some (.ref f_is_talk))) (l_is_talk : K.lookup f_is_talk = some ⟨oc_is_talk, od_is_talk, .func (PySem.W.fnOf "is_talk" "is_talk" (defArgs s_is_talk) (defBody s_is_talk) (defScope s_is_talk) .none kV_is_talk dc_is_talk pm_is_talk an_is_talk cd_is_talk ct_is_talk), sl_is_talk⟩) (c_is_talk : PySem.W.codeIn K cd_is_talk "is_talk" = true) (k_is_talk : PySem.W.keepIn K (.ref f_is_talk) = true)
    {od_is_branch an_is_branch : Option Addr} {sl_is_branch : Array (Option Value)} {oc_is_branch kV_is_branch dc_is_branch pm_is_branch cd_is_branch ct_is_branch : Value} {f_is_branch : Addr}
    (a_is_branch : PySem.W.nsIn K mainGlobals "is_branch" = some (some (.ref f_is_branch))) (l_is_branch : K.lookup f_is_branch = some ⟨oc_is_branch, od_is_branch, .func (PySem.W.fnOf "is_branch" "is_branch" (defArgs s_is_branch) (defBody s_is_branch) (defScope s_is_branch) .none kV_is_branch dc_is_branch pm_is_branch an_is_branch cd_is_branch ct_is_branch), sl_is_branch⟩) (c_is_branch : PySem.W.codeIn K cd_is_branch "is_branch" = true) (k_is_branch : PySem.W.keepIn K (.ref f_is_branch) = true)
    {od_is_scene an_is_scene : Option Addr} {sl_is_scene : Array (Option Value)} {oc_is_scene kV_is_scene dc_is_scene pm_is_scene cd_is_scene ct_is_scene : Value} {f_is_scene : Addr}
    (a_is_scene : PySem.W.nsIn K mainGlobals "is_scene" = some (some (.ref f_is_scene))) (l_is_scene : K.lookup f_is_scene = some ⟨oc_is_scene, od_is_scene, .func (PySem.W.fnOf "is_scene" "is_scene" (defArgs s_is_scene) (defBody s_is_scene) (defScope s_is_scene) .none kV_is_scene dc_is_scene pm_is_scene an_is_scene cd_is_scene ct_is_scene), sl_is_scene⟩) (c_is_scene : PySem.W.codeIn K cd_is_scene "is_scene" = true) (k_is_scene : PySem.W.keepIn K (.ref f_is_scene) = true)
    {od_check_script an_check_script : Option Addr} {sl_check_script : Array (Option Value)} {oc_check_script kV_check_script dc_check_script pm_check_script cd_check_script ct_check_script : Value} {f_check_script : Addr}
    (a_check_script : PySem.W.nsIn K mainGlobals "check_script" = some (some (.ref f_check_script))) (l_check_script : K.lookup f_check_script = some ⟨oc_check_script, od_check_script, .func (PySem.W.fnOf "check_script" "check_script" (defArgs s_check_script) (defBody s_check_script) (defScope s_check_script) .none kV_check_script dc_check_script pm_check_script an_check_script cd_check_script ct_check_script), sl_check_script⟩) (c_check_script : PySem.W.codeIn K cd_check_script "check_script" = true) (k_check_script : PySem.W.keepIn K (.ref f_check_script) = true)
    {od_coming an_coming : Option Addr} {sl_coming : Array (Option Value)} {oc_coming kV_coming dc_coming pm_coming cd_coming ct_coming : Value} {f_coming : Addr}
    (a_coming : PySem.W.nsIn K mainGlobals "coming" = some (some (.ref f_coming))) (l_coming : K.lookup f_coming = some ⟨oc_coming, od_coming, .func (PySem.W.fnOf "coming" "coming" (defArgs s_coming) (defBody s_coming) (defScope s_coming) .none kV_coming dc_coming pm_coming an_coming cd_coming ct_coming), sl_coming⟩) (c_coming : PySem.W.codeIn K cd_coming "coming" = true) (k_coming : PySem.W.keepIn K (.ref f_coming) = true)
    {od_talks_from an_talks_from : Option Addr} {sl_talks_from : Array (Option Value)} {oc_talks_from kV_talks_from dc_talks_from pm_talks_from cd_talks_from ct_talks_from : Value} {f_talks_from : Addr}
    (a_talks_from : PySem.W.nsIn K mainGlobals "talks_from" = some (some (.ref f_talks_from))) (l_talks_from : K.lookup f_talks_from = some ⟨oc_talks_from, od_talks_from, .func (PySem.W.fnOf "talks_from" "talks_from" (defArgs s_talks_from) (defBody s_talks_from) (defScope s_talks_from) .none kV_talks_from dc_talks_from pm_talks_from an_talks_from cd_talks_from ct_talks_from), sl_talks_from⟩) (c_talks_from : PySem.W.codeIn K cd_talks_from "talks_from" = true) (k_talks_from : PySem.W.keepIn K (.ref f_talks_from) = true)
    {od_talk_web an_talk_web : Option Addr} {sl_talk_web : Array (Option Value)} {oc_talk_web kV_talk_web dc_talk_web pm_talk_web cd_talk_web ct_talk_web : Value} {f_talk_web : Addr}
    (a_talk_web : PySem.W.nsIn K mainGlobals "talk_web" = some (some (.ref f_talk_web))) (l_talk_web : K.lookup f_talk_web = some ⟨oc_talk_web, od_talk_web, .func (PySem.W.fnOf "talk_web" "talk_web" (defArgs s_talk_web) (defBody s_talk_web) (defScope s_talk_web) .none kV_talk_web dc_talk_web pm_talk_web an_talk_web cd_talk_web ct_talk_web), sl_talk_web⟩) (c_talk_web : PySem.W.codeIn K cd_talk_web "talk_web" = true) (k_talk_web : PySem.W.keepIn K (.ref f_talk_web) = true)
    {od_reached_scenes an_reached_scenes : Option Addr} {sl_reached_scenes : Array (Option Value)} {oc_reached_scenes kV_reached_scenes dc_reached_scenes pm_reached_scenes cd_reached_scenes ct_reached_scenes : Value} {f_reached_scenes : Addr}
    (a_reached_scenes : PySem.W.nsIn K mainGlobals "reached_scenes" = some (some (.ref f_reached_scenes))) (l_reached_scenes : K.lookup f_reached_scenes = some ⟨oc_reached_scenes, od_reached_scenes, .func (PySem.W.fnOf "reached_scenes" "reached_scenes" (defArgs s_reached_scenes) (defBody s_reached_scenes) (defScope s_reached_scenes) .none kV_reached_scenes dc_reached_scenes pm_reached_scenes an_reached_scenes cd_reached_scenes ct_reached_scenes), sl_reached_scenes⟩) (c_reached_scenes : PySem.W.codeIn K cd_reached_scenes "reached_scenes" = true) (k_reached_scenes : PySem.W.keepIn K (.ref f_reached_scenes) = true)
    {od_talks_that_come an_talks_that_come : Option Addr} {sl_talks_that_come : Array (Option Value)} {oc_talks_that_come kV_talks_that_come dc_talks_that_come pm_talks_that_come cd_talks_that_come ct_talks_that_come : Value} {f_talks_that_come : Addr}
    (a_talks_that_come : PySem.W.nsIn K mainGlobals "talks_that_come" = some (some (.ref f_talks_that_come))) (l_talks_that_come : K.lookup f_talks_that_come = some ⟨oc_talks_that_come, od_talks_that_come, .func (PySem.W.fnOf "talks_that_come" "talks_that_come" (defArgs s_talks_that_come) (defBody s_talks_that_come) (defScope s_talks_that_come) .none kV_talks_that_come dc_talks_that_come pm_talks_that_come an_talks_that_come cd_talks_that_come ct_talks_that_come), sl_talks_that_come⟩) (c_talks_that_come : PySem.W.codeIn K cd_talks_that_come "talks_that_come" = true) (k_talks_that_come : PySem.W.keepIn K (.ref f_talks_that_come) = true)
    {od_speakers an_speakers : Option Addr} {sl_speakers : Array (Option Value)} {oc_speakers kV_speakers dc_speakers pm_speakers cd_speakers ct_speakers : Value} {f_speakers : Addr}
    (a_speakers : PySem.W.nsIn K mainGlobals "speakers" = some (some (.ref f_speakers))) (l_speakers : K.lookup f_speakers = some ⟨oc_speakers, od_speakers, .func (PySem.W.fnOf "speakers" "speakers" (defArgs s_speakers) (defBody s_speakers) (defScope s_speakers) .none kV_speakers dc_speakers pm_speakers an_speakers cd_speakers ct_speakers), sl_speakers⟩) (c_speakers : PySem.W.codeIn K cd_speakers "speakers" = true) (k_speakers : PySem.W.keepIn K (.ref f_speakers) = true)
    {od_silent an_silent : Option Addr} {sl_silent : Array (Option Value)} {oc_silent kV_silent dc_silent pm_silent cd_silent ct_silent : Value} {f_silent : Addr}
    (a_silent : PySem.W.nsIn K mainGlobals "silent" = some (some (.ref f_silent))) (l_silent : K.lookup f_silent = some ⟨oc_silent, od_silent, .func (PySem.W.fnOf "silent" "silent" (defArgs s_silent) (defBody s_silent) (defScope s_silent) .none kV_silent dc_silent pm_silent an_silent cd_silent ct_silent), sl_silent⟩) (c_silent : PySem.W.codeIn K cd_silent "silent" = true) (k_silent : PySem.W.keepIn K (.ref f_silent) = true)
    {od_new_names an_new_names : Option Addr} {sl_new_names : Array (Option Value)} {oc_new_names kV_new_names dc_new_names pm_new_names cd_new_names ct_new_names : Value} {f_new_names : Addr}
    (a_new_names : PySem.W.nsIn K mainGlobals "new_names" = some (some (.ref f_new_names))) (l_new_names : K.lookup f_new_names = some ⟨oc_new_names, od_new_names, .func (PySem.W.fnOf "new_names" "new_names" (defArgs s_new_names) (defBody s_new_names) (defScope s_new_names) .none kV_new_names dc_new_names pm_new_names an_new_names cd_new_names ct_new_names), sl_new_names⟩) (c_new_names : PySem.W.codeIn K cd_new_names "new_names" = true) (k_new_names : PySem.W.keepIn K (.ref f_new_names) = true)
    {od_renamed_scene an_renamed_scene : Option Addr} {sl_renamed_scene : Array (Option Value)} {oc_renamed_scene kV_renamed_scene dc_renamed_scene pm_renamed_scene cd_renamed_scene ct_renamed_scene : Value} {f_renamed_scene : Addr}
    (a_renamed_scene : PySem.W.nsIn K mainGlobals "renamed_scene" = some (some (.ref f_renamed_scene))) (l_renamed_scene : K.lookup f_renamed_scene = some ⟨oc_renamed_scene, od_renamed_scene, .func (PySem.W.fnOf "renamed_scene" "renamed_scene" (defArgs s_renamed_scene) (defBody s_renamed_scene) (defScope s_renamed_scene) .none kV_renamed_scene dc_renamed_scene pm_renamed_scene an_renamed_scene cd_renamed_scene ct_renamed_scene), sl_renamed_scene⟩) (c_renamed_scene : PySem.W.codeIn K cd_renamed_scene "renamed_scene" = true) (k_renamed_scene : PySem.W.keepIn K (.ref f_renamed_scene) = true)
    {od_trimmed an_trimmed : Option Addr} {sl_trimmed : Array (Option Value)} {oc_trimmed kV_trimmed dc_trimmed pm_trimmed cd_trimmed ct_trimmed : Value} {f_trimmed : Addr}
    (a_trimmed : PySem.W.nsIn K mainGlobals "trimmed" = some (some (.ref f_trimmed))) (l_trimmed : K.lookup f_trimmed = some ⟨oc_trimmed, od_trimmed, .func (PySem.W.fnOf "trimmed" "trimmed" (defArgs s_trimmed) (defBody s_trimmed) (defScope s_trimmed) .none kV_trimmed dc_trimmed pm_trimmed an_trimmed cd_trimmed ct_trimmed), sl_trimmed⟩) (c_trimmed : PySem.W.codeIn K cd_trimmed "trimmed" = true) (k_trimmed : PySem.W.keepIn K (.ref f_trimmed) = true)
    {od_end_scenes an_end_scenes : Option Addr} {sl_end_scenes : Array (Option Value)} {oc_end_scenes kV_end_scenes dc_end_scenes pm_end_scenes cd_end_scenes ct_end_scenes : Value} {f_end_scenes : Addr}
    (a_end_scenes : PySem.W.nsIn K mainGlobals "end_scenes" = some (some (.ref f_end_scenes))) (l_end_scenes : K.lookup f_end_scenes = some ⟨oc_end_scenes, od_end_scenes, .func (PySem.W.fnOf "end_scenes" "end_scenes" (defArgs s_end_scenes) (defBody s_end_scenes) (defScope s_end_scenes) .none kV_end_scenes dc_end_scenes pm_end_scenes an_end_scenes cd_end_scenes ct_end_scenes), sl_end_scenes⟩) (c_end_scenes : PySem.W.codeIn K cd_end_scenes "end_scenes" = true) (k_end_scenes : PySem.W.keepIn K (.ref f_end_scenes) = true)
    {od_has_rounds an_has_rounds : Option Addr} {sl_has_rounds : Array (Option Value)} {oc_has_rounds kV_has_rounds dc_has_rounds pm_has_rounds cd_has_rounds ct_has_rounds : Value} {f_has_rounds : Addr}
    (a_has_rounds : PySem.W.nsIn K mainGlobals "has_rounds" = some (some (.ref f_has_rounds))) (l_has_rounds : K.lookup f_has_rounds = some ⟨oc_has_rounds, od_has_rounds, .func (PySem.W.fnOf "has_rounds" "has_rounds" (defArgs s_has_rounds) (defBody s_has_rounds) (defScope s_has_rounds) .none kV_has_rounds dc_has_rounds pm_has_rounds an_has_rounds cd_has_rounds ct_has_rounds), sl_has_rounds⟩) (c_has_rounds : PySem.W.codeIn K cd_has_rounds "has_rounds" = true) (k_has_rounds : PySem.W.keepIn K (.ref f_has_rounds) = true)
    {od_always_ends an_always_ends : Option Addr} {sl_always_ends : Array (Option Value)} {oc_always_ends kV_always_ends dc_always_ends pm_always_ends cd_always_ends ct_always_ends : Value} {f_always_ends : Addr}
    (a_always_ends : PySem.W.nsIn K mainGlobals "always_ends" = some (some (.ref f_always_ends))) (l_always_ends : K.lookup f_always_ends = some ⟨oc_always_ends, od_always_ends, .func (PySem.W.fnOf "always_ends" "always_ends" (defArgs s_always_ends) (defBody s_always_ends) (defScope s_always_ends) .none kV_always_ends dc_always_ends pm_always_ends an_always_ends cd_always_ends ct_always_ends), sl_always_ends⟩) (c_always_ends : PySem.W.codeIn K cd_always_ends "always_ends" = true) (k_always_ends : PySem.W.keepIn K (.ref f_always_ends) = true)
    {od_law an_law : Option Addr} {sl_law : Array (Option Value)} {oc_law kV_law dc_law pm_law cd_law ct_law : Value} {f_law : Addr}
    (a_law : PySem.W.nsIn K mainGlobals "law" = some (some (.ref f_law))) (l_law : K.lookup f_law = some ⟨oc_law, od_law, .func (PySem.W.fnOf "law" "law" (defArgs s_law) (defBody s_law) (defScope s_law) .none kV_law dc_law pm_law an_law cd_law ct_law), sl_law⟩) (c_law : PySem.W.codeIn K cd_law "law" = true) (k_law : PySem.W.keepIn K (.ref f_law) = true)
    (z_all : PySem.W.nsIn K mainGlobals "all" = some none)
    (z_any : PySem.W.nsIn K mainGlobals "any" = some none)
    (z_bool : PySem.W.nsIn K mainGlobals "bool" = some none)
    (z_enumerate : PySem.W.nsIn K mainGlobals "enumerate" = some none)
    (z_int : PySem.W.nsIn K mainGlobals "int" = some none)
    (z_isinstance : PySem.W.nsIn K mainGlobals "isinstance" = some none)
    (z_len : PySem.W.nsIn K mainGlobals "len" = some none)
    (z_list : PySem.W.nsIn K mainGlobals "list" = some none)
    (z_range : PySem.W.nsIn K mainGlobals "range" = some none)
    (z_sorted : PySem.W.nsIn K mainGlobals "sorted" = some none)
    (z_str : PySem.W.nsIn K mainGlobals "str" = some none)
    (z_tuple : PySem.W.nsIn K mainGlobals "tuple" = some none)
    {t_LAST_WORD : Tok} (q_LAST_WORD : PySem.W.nsIn K mainGlobals "LAST_WORD" = some (some (.int 5 t_LAST_WORD)))
    {t_LEAST_ACTORS : Tok} (q_LEAST_ACTORS : PySem.W.nsIn K mainGlobals "LEAST_ACTORS" = some (some (.int 2 t_LEAST_ACTORS)))
    {t_MOST_ACTORS : Tok} (q_MOST_ACTORS : PySem.W.nsIn K mainGlobals "MOST_ACTORS" = some (some (.int 4 t_MOST_ACTORS)))
    {t_MOST_SCENES : Tok} (q_MOST_SCENES : PySem.W.nsIn K mainGlobals "MOST_SCENES" = some (some (.int 8 t_MOST_SCENES))) :
    ∃ fd : FuncData, (∀ (s : Shared) (v : Value), BindsTo s fd ⟨[v], []⟩ [("script", v)]) ∧ ∀ base : Heap, K.In base → base.Ns mainGlobals mg → FnOk l.prog w K mg base CX0 11 fa fd ["script"] (spLaw K b_law 16 10100) := by
  have e := hfa.symm.trans (PySem.W.mg_of X G a_law)
  cases e
  have F_law_taken := fun_mk (st := s_law_taken) l_law_taken c_law_taken k_law_taken
  have F_law_scene := fun_mk (st := s_law_scene) l_law_scene c_law_scene k_law_scene
  have F_law_script := fun_mk (st := s_law_script) l_law_script c_law_script k_law_script
  have F_law_branches := fun_mk (st := s_law_branches) l_law_branches c_law_branches k_law_branches
  have F_law_coming := fun_mk (st := s_law_coming) l_law_coming c_law_coming k_law_coming
  have F_law_alike := fun_mk (st := s_law_alike) l_law_alike c_law_alike k_law_alike
  have F_has_items := fun_mk (st := s_has_items) l_has_items c_has_items k_has_items
  have F_is_number := fun_mk (st := s_is_number) l_is_number c_is_number k_is_number
  have F_has_script_form := fun_mk (st := s_has_script_form) l_has_script_form c_has_script_form k_has_script_form
  have F_is_rising := fun_mk (st := s_is_rising) l_is_rising c_is_rising k_is_rising
  have F_is_talk := fun_mk (st := s_is_talk) l_is_talk c_is_talk k_is_talk
  have F_is_branch := fun_mk (st := s_is_branch) l_is_branch c_is_branch k_is_branch
  have F_is_scene := fun_mk (st := s_is_scene) l_is_scene c_is_scene k_is_scene
  have F_check_script := fun_mk (st := s_check_script) l_check_script c_check_script k_check_script
  have F_coming := fun_mk (st := s_coming) l_coming c_coming k_coming
  have F_talks_from := fun_mk (st := s_talks_from) l_talks_from c_talks_from k_talks_from
  have F_talk_web := fun_mk (st := s_talk_web) l_talk_web c_talk_web k_talk_web
  have F_reached_scenes := fun_mk (st := s_reached_scenes) l_reached_scenes c_reached_scenes k_reached_scenes
  have F_talks_that_come := fun_mk (st := s_talks_that_come) l_talks_that_come c_talks_that_come k_talks_that_come
  have F_speakers := fun_mk (st := s_speakers) l_speakers c_speakers k_speakers
  have F_silent := fun_mk (st := s_silent) l_silent c_silent k_silent
  have F_new_names := fun_mk (st := s_new_names) l_new_names c_new_names k_new_names
  have F_renamed_scene := fun_mk (st := s_renamed_scene) l_renamed_scene c_renamed_scene k_renamed_scene
  have F_trimmed := fun_mk (st := s_trimmed) l_trimmed c_trimmed k_trimmed
  have F_end_scenes := fun_mk (st := s_end_scenes) l_end_scenes c_end_scenes k_end_scenes
  have F_has_rounds := fun_mk (st := s_has_rounds) l_has_rounds c_has_rounds k_has_rounds
  have F_always_ends := fun_mk (st := s_always_ends) l_always_ends c_always_ends k_always_ends
  have F_law := fun_mk (st := s_law) l_law c_law k_law
  have b_law_taken := F_law_taken.binds (ps := ["row", "many"]) fun _ _ _ _ _ _ us hl => match us, hl with | [_, _], _ => rfl
  have C_law_taken : ∀ base : Heap, Callee l.prog w K mg base 1 "_law_taken" (spR K m_law_taken) := fun base => ⟨f_law_taken, _, _, ok_law_taken (k := 0) F_law_taken (PySem.W.mg_none_of X G z_int) (PySem.W.mg_none_of X G z_len), PySem.W.mg_of X G a_law_taken, k_law_taken, b_law_taken⟩
  have b_law_scene := F_law_scene.binds (ps := ["row", "actors", "at", "size", "loops"]) fun _ _ _ _ _ _ us hl => match us, hl with | [_, _, _, _, _], _ => rfl
  have C_law_scene : ∀ base : Heap, Callee l.prog w K mg base 2 "_law_scene" (spR K m_law_scene) := fun base => ⟨f_law_scene, _, _, ok_law_scene (k := 1) F_law_scene ((C_law_taken base).mono (by decide)) (PySem.W.mg_none_of X G z_tuple) (PySem.W.mg_none_of X G z_sorted) (PySem.W.mg_none_of X G z_list) (PySem.W.mg_none_of X G z_range) (PySem.W.mg_none_of X G z_int), PySem.W.mg_of X G a_law_scene, k_law_scene, b_law_scene⟩
  have b_law_script := F_law_script.binds (ps := ["row", "actors", "most", "loops"]) fun _ _ _ _ _ _ us hl => match us, hl with | [_, _, _, _], _ => rfl
  have C_law_script : ∀ base : Heap, Callee l.prog w K mg base 3 "_law_script" (spR K m_law_script) := fun base => ⟨f_law_script, _, _, ok_law_script (k := 2) F_law_script ((C_law_scene base).mono (by decide)) ((C_law_taken base).mono (by decide)) (PySem.W.mg_none_of X G z_tuple) (PySem.W.mg_none_of X G z_range), PySem.W.mg_of X G a_law_script, k_law_script, b_law_script⟩
  have b_law_branches := F_law_branches.binds (ps := ["script", "scene"]) fun _ _ _ _ _ _ us hl => match us, hl with | [_, _], _ => rfl
  have C_law_branches : ∀ base : Heap, Callee l.prog w K mg base 1 "_law_branches" (spF K m_law_branches) := fun base => ⟨f_law_branches, _, _, ok_law_branches (k := 0) F_law_branches, PySem.W.mg_of X G a_law_branches, k_law_branches, b_law_branches⟩
  have b_law_coming := F_law_coming.binds (ps := ["script", "scene"]) fun _ _ _ _ _ _ us hl => match us, hl with | [_, _], _ => rfl
  have C_law_coming : ∀ base : Heap, Callee l.prog w K mg base 2 "_law_coming" (spF K m_law_coming) := fun base => ⟨f_law_coming, _, _, ok_law_coming (k := 1) F_law_coming ((C_law_branches base).mono (by decide)) (PySem.W.mg_none_of X G z_sorted) (PySem.W.mg_none_of X G z_list), PySem.W.mg_of X G a_law_coming, k_law_coming, b_law_coming⟩
  have b_law_alike := F_law_alike.binds (ps := ["found", "due"]) fun _ _ _ _ _ _ us hl => match us, hl with | [_, _], _ => rfl
  have C_law_alike : ∀ base : Heap, Callee l.prog w K mg base 10 "_law_alike" (spF K (m_law_alike 9)) := fun base => ⟨f_law_alike, _, _, ok_law_alike (k := 1) F_law_alike (PySem.W.mg_of X G a_law_alike) b_law_alike (PySem.W.mg_none_of X G z_isinstance) (PySem.W.mg_none_of X G z_bool) (PySem.W.mg_none_of X G z_int) (PySem.W.mg_none_of X G z_str) (PySem.W.mg_none_of X G z_tuple) (PySem.W.mg_none_of X G z_list) (PySem.W.mg_none_of X G z_range) (PySem.W.mg_none_of X G z_len) 9, PySem.W.mg_of X G a_law_alike, k_law_alike, b_law_alike⟩
  have b_has_items := F_has_items.binds (ps := ["value", "least", "most"]) fun _ _ _ _ _ _ us hl => match us, hl with | [_, _, _], _ => rfl
  have C_has_items : ∀ base : Heap, Callee l.prog w K mg base 1 "has_items" (spF K m_has_items) := fun base => ⟨f_has_items, _, _, ok_has_items (k := 0) F_has_items (PySem.W.mg_none_of X G z_len) (PySem.W.mg_none_of X G z_isinstance) (PySem.W.mg_none_of X G z_tuple), PySem.W.mg_of X G a_has_items, k_has_items, b_has_items⟩
  have b_is_number := F_is_number.binds (ps := ["value", "least", "most"]) fun _ _ _ _ _ _ us hl => match us, hl with | [_, _, _], _ => rfl
  have C_is_number : ∀ base : Heap, Callee l.prog w K mg base 1 "is_number" (spF K m_is_number) := fun base => ⟨f_is_number, _, _, ok_is_number (k := 0) F_is_number (PySem.W.mg_none_of X G z_isinstance) (PySem.W.mg_none_of X G z_bool) (PySem.W.mg_none_of X G z_int), PySem.W.mg_of X G a_is_number, k_is_number, b_is_number⟩
  have b_has_script_form := F_has_script_form.binds (ps := ["value"]) fun _ _ _ _ _ _ us hl => match us, hl with | [_], _ => rfl
  have C_has_script_form : ∀ base : Heap, Callee l.prog w K mg base 2 "has_script_form" (spF K m_has_script_form) := fun base => ⟨f_has_script_form, _, _, ok_has_script_form (k := 1) F_has_script_form ((C_has_items base).mono (by decide)) ((C_is_number base).mono (by decide)) (PySem.W.mg_of X G q_MOST_SCENES) (PySem.W.mg_of X G q_MOST_ACTORS) (PySem.W.mg_of X G q_LEAST_ACTORS), PySem.W.mg_of X G a_has_script_form, k_has_script_form, b_has_script_form⟩
  have b_is_rising := F_is_rising.binds (ps := ["values"]) fun _ _ _ _ _ _ us hl => match us, hl with | [_], _ => rfl
  have C_is_rising : ∀ base : Heap, Callee l.prog w K mg base 1 "is_rising" (spF K m_is_rising) := fun base => ⟨f_is_rising, _, _, ok_is_rising (k := 0) F_is_rising (PySem.W.mg_none_of X G z_all) (PySem.W.mg_none_of X G z_range) (PySem.W.mg_none_of X G z_len), PySem.W.mg_of X G a_is_rising, k_is_rising, b_is_rising⟩
  have b_is_talk := F_is_talk.binds (ps := ["value", "actors"]) fun _ _ _ _ _ _ us hl => match us, hl with | [_, _], _ => rfl
  have C_is_talk : ∀ base : Heap, Callee l.prog w K mg base 2 "is_talk" (spF K m_is_talk) := fun base => ⟨f_is_talk, _, _, ok_is_talk (k := 1) F_is_talk ((C_is_number base).mono (by decide)) ((C_has_items base).mono (by decide)) (PySem.W.mg_of X G q_LAST_WORD), PySem.W.mg_of X G a_is_talk, k_is_talk, b_is_talk⟩
  have b_is_branch := F_is_branch.binds (ps := ["value", "speaker", "actors", "many"]) fun _ _ _ _ _ _ us hl => match us, hl with | [_, _, _, _], _ => rfl
  have C_is_branch : ∀ base : Heap, Callee l.prog w K mg base 3 "is_branch" (spF K m_is_branch) := fun base => ⟨f_is_branch, _, _, ok_is_branch (k := 2) F_is_branch ((C_is_number base).mono (by decide)) ((C_is_talk base).mono (by decide)) ((C_has_items base).mono (by decide)), PySem.W.mg_of X G a_is_branch, k_is_branch, b_is_branch⟩
  have b_is_scene := F_is_scene.binds (ps := ["value", "actors", "many"]) fun _ _ _ _ _ _ us hl => match us, hl with | [_, _, _], _ => rfl
  have C_is_scene : ∀ base : Heap, Callee l.prog w K mg base 4 "is_scene" (spF K m_is_scene) := fun base => ⟨f_is_scene, _, _, ok_is_scene (k := 3) F_is_scene ((C_is_rising base).mono (by decide)) ((C_is_branch base).mono (by decide)) ((C_has_items base).mono (by decide)) (PySem.W.mg_none_of X G z_all) (PySem.W.mg_none_of X G z_len) (PySem.W.mg_none_of X G z_isinstance) (PySem.W.mg_none_of X G z_tuple), PySem.W.mg_of X G a_is_scene, k_is_scene, b_is_scene⟩
  have b_check_script := F_check_script.binds (ps := ["script"]) fun _ _ _ _ _ _ us hl => match us, hl with | [_], _ => rfl
  have C_check_script : ∀ base : Heap, Callee l.prog w K mg base 5 "check_script" (spF K m_check_script) := fun base => ⟨f_check_script, _, _, ok_check_script (k := 4) F_check_script ((C_is_scene base).mono (by decide)) ((C_has_script_form base).mono (by decide)) (PySem.W.mg_none_of X G z_enumerate) (PySem.W.mg_none_of X G z_len), PySem.W.mg_of X G a_check_script, k_check_script, b_check_script⟩
  have b_coming := F_coming.binds (ps := ["web", "start"]) fun _ _ _ _ _ _ us hl => match us, hl with | [_, _], _ => rfl
  have C_coming : ∀ base : Heap, Callee l.prog w K mg base 1 "coming" (spF K m_coming) := fun base => ⟨f_coming, _, _, ok_coming (k := 0) F_coming (PySem.W.mg_none_of X G z_len), PySem.W.mg_of X G a_coming, k_coming, b_coming⟩
  have b_talks_from := F_talks_from.binds (ps := ["scene"]) fun _ _ _ _ _ _ us hl => match us, hl with | [_], _ => rfl
  have C_talks_from : ∀ base : Heap, Callee l.prog w K mg base 1 "talks_from" (spF K m_talks_from) := fun base => ⟨f_talks_from, _, _, ok_talks_from (k := 0) F_talks_from, PySem.W.mg_of X G a_talks_from, k_talks_from, b_talks_from⟩
  have b_talk_web := F_talk_web.binds (ps := ["script"]) fun _ _ _ _ _ _ us hl => match us, hl with | [_], _ => rfl
  have C_talk_web : ∀ base : Heap, Callee l.prog w K mg base 2 "talk_web" (spF K m_talk_web) := fun base => ⟨f_talk_web, _, _, ok_talk_web (k := 1) F_talk_web ((C_talks_from base).mono (by decide)), PySem.W.mg_of X G a_talk_web, k_talk_web, b_talk_web⟩
  have b_reached_scenes := F_reached_scenes.binds (ps := ["script"]) fun _ _ _ _ _ _ us hl => match us, hl with | [_], _ => rfl
  have C_reached_scenes : ∀ base : Heap, Callee l.prog w K mg base 6 "reached_scenes" (spF K m_reached_scenes) := fun base => ⟨f_reached_scenes, _, _, ok_reached_scenes (k := 5) F_reached_scenes ((C_coming base).mono (by decide)) ((C_talk_web base).mono (by decide)) ((C_check_script base).mono (by decide)) (PySem.W.mg_none_of X G z_tuple) (PySem.W.mg_none_of X G z_sorted), PySem.W.mg_of X G a_reached_scenes, k_reached_scenes, b_reached_scenes⟩
  have b_talks_that_come := F_talks_that_come.binds (ps := ["script"]) fun _ _ _ _ _ _ us hl => match us, hl with | [_], _ => rfl
  have C_talks_that_come : ∀ base : Heap, Callee l.prog w K mg base 7 "talks_that_come" (spF K m_talks_that_come) := fun base => ⟨f_talks_that_come, _, _, ok_talks_that_come (k := 6) F_talks_that_come ((C_reached_scenes base).mono (by decide)) ((C_talks_from base).mono (by decide)), PySem.W.mg_of X G a_talks_that_come, k_talks_that_come, b_talks_that_come⟩
  have b_speakers := F_speakers.binds (ps := ["script"]) fun _ _ _ _ _ _ us hl => match us, hl with | [_], _ => rfl
  have C_speakers : ∀ base : Heap, Callee l.prog w K mg base 8 "speakers" (spF K m_speakers) := fun base => ⟨f_speakers, _, _, ok_speakers (k := 7) F_speakers ((C_talks_that_come base).mono (by decide)) (PySem.W.mg_none_of X G z_tuple) (PySem.W.mg_none_of X G z_sorted), PySem.W.mg_of X G a_speakers, k_speakers, b_speakers⟩
  have b_silent := F_silent.binds (ps := ["script"]) fun _ _ _ _ _ _ us hl => match us, hl with | [_], _ => rfl
  have C_silent : ∀ base : Heap, Callee l.prog w K mg base 8 "silent" (spF K m_silent) := fun base => ⟨f_silent, _, _, ok_silent (k := 7) F_silent ((C_talks_that_come base).mono (by decide)) (PySem.W.mg_none_of X G z_tuple) (PySem.W.mg_none_of X G z_range), PySem.W.mg_of X G a_silent, k_silent, b_silent⟩
  have b_new_names := F_new_names.binds (ps := ["order"]) fun _ _ _ _ _ _ us hl => match us, hl with | [_], _ => rfl
  have C_new_names : ∀ base : Heap, Callee l.prog w K mg base 1 "new_names" (spF K m_new_names) := fun base => ⟨f_new_names, _, _, ok_new_names (k := 0) F_new_names (PySem.W.mg_none_of X G z_enumerate), PySem.W.mg_of X G a_new_names, k_new_names, b_new_names⟩
  have b_renamed_scene := F_renamed_scene.binds (ps := ["scene", "names"]) fun _ _ _ _ _ _ us hl => match us, hl with | [_, _], _ => rfl
  have C_renamed_scene : ∀ base : Heap, Callee l.prog w K mg base 1 "renamed_scene" (spF K m_renamed_scene) := fun base => ⟨f_renamed_scene, _, _, ok_renamed_scene (k := 0) F_renamed_scene (PySem.W.mg_none_of X G z_tuple), PySem.W.mg_of X G a_renamed_scene, k_renamed_scene, b_renamed_scene⟩
  have b_trimmed := F_trimmed.binds (ps := ["script"]) fun _ _ _ _ _ _ us hl => match us, hl with | [_], _ => rfl
  have C_trimmed : ∀ base : Heap, Callee l.prog w K mg base 6 "trimmed" (spF K m_trimmed) := fun base => ⟨f_trimmed, _, _, ok_trimmed (k := 5) F_trimmed ((C_renamed_scene base).mono (by decide)) ((C_new_names base).mono (by decide)) ((C_coming base).mono (by decide)) ((C_talk_web base).mono (by decide)) ((C_check_script base).mono (by decide)) (PySem.W.mg_none_of X G z_tuple), PySem.W.mg_of X G a_trimmed, k_trimmed, b_trimmed⟩
  have b_end_scenes := F_end_scenes.binds (ps := ["script"]) fun _ _ _ _ _ _ us hl => match us, hl with | [_], _ => rfl
  have C_end_scenes : ∀ base : Heap, Callee l.prog w K mg base 7 "end_scenes" (spF K m_end_scenes) := fun base => ⟨f_end_scenes, _, _, ok_end_scenes (k := 6) F_end_scenes ((C_reached_scenes base).mono (by decide)) (PySem.W.mg_none_of X G z_tuple), PySem.W.mg_of X G a_end_scenes, k_end_scenes, b_end_scenes⟩
  have b_has_rounds := F_has_rounds.binds (ps := ["script"]) fun _ _ _ _ _ _ us hl => match us, hl with | [_], _ => rfl
  have C_has_rounds : ∀ base : Heap, Callee l.prog w K mg base 6 "has_rounds" (spF K m_has_rounds) := fun base => ⟨f_has_rounds, _, _, ok_has_rounds (k := 5) F_has_rounds ((C_coming base).mono (by decide)) ((C_talk_web base).mono (by decide)) ((C_check_script base).mono (by decide)), PySem.W.mg_of X G a_has_rounds, k_has_rounds, b_has_rounds⟩
  have b_always_ends := F_always_ends.binds (ps := ["script"]) fun _ _ _ _ _ _ us hl => match us, hl with | [_], _ => rfl
  have C_always_ends : ∀ base : Heap, Callee l.prog w K mg base 6 "always_ends" (spF K m_always_ends) := fun base => ⟨f_always_ends, _, _, ok_always_ends (k := 5) F_always_ends ((C_coming base).mono (by decide)) ((C_talk_web base).mono (by decide)) ((C_check_script base).mono (by decide)) (PySem.W.mg_none_of X G z_any), PySem.W.mg_of X G a_always_ends, k_always_ends, b_always_ends⟩
  exact ⟨_, fun s v => .of_eq rfl, fun base _ _ => ok_law (k := 10) F_law ((C_trimmed base).mono (by decide)) ((C_law_alike base).mono (by decide)) ((C_law_branches base).mono (by decide)) ((C_silent base).mono (by decide)) ((C_speakers base).mono (by decide)) ((C_always_ends base).mono (by decide)) ((C_has_rounds base).mono (by decide)) ((C_law_coming base).mono (by decide)) ((C_end_scenes base).mono (by decide)) ((C_reached_scenes base).mono (by decide)) ((C_law_script base).mono (by decide)) ((C_law_taken base).mono (by decide)) (PySem.W.mg_none_of X G z_tuple) (PySem.W.mg_none_of X G z_len) (PySem.W.mg_none_of X G z_int) (PySem.W.mg_none_of X G z_range) (PySem.W.mg_none_of X G z_sorted) (PySem.W.mg_none_of X G z_list)⟩
theorem only_seq {K : PySem.W.Frag} {H : Hp} {a : Addr} {xs : List V} (hO : Only H) (h : SqL K H a xs) : (∃ o, H a = some (.frz o (.lst xs))) ∨ SqL K (fun _ => none) a xs := by
  rcases h with (h | ⟨o, h⟩) | h
  · rcases hO a with q | ⟨o, ys, q⟩
    · rw [q] at h; cases h
    · rw [q] at h; cases h
  · exact .inl ⟨o, h⟩
  · exact .inr (.inr h)
end
end Lw
open PySem PySem.W PyProof.Rows
set_option maxHeartbeats 0 in
theorem PySem.Challenge.cw_roletalks_k00_whole_scripts_holds : PySem.Challenge.rw_roletalks_k00_whole_scripts.Holds := by
  w_on; o_law; k_head; (case hw => w_witness2)
  k_fill
  refine L2.walk_of (l := PySem.Challenge.rw_roletalks_k00_whole_scripts) (n := 63) (k := 11) (x := "script") (CX := fun _ => L2.CX0) (sp := fun w => RT.spLaw _ Lw.b_law 16 10100) rfl (by decide) rfl ⟨rfl, by decide, by decide⟩ (fun w h Y => PySem.W.kIn_of Y) ?F (fun _ H a ns hl hO hS => by
    obtain ⟨x', e⟩ := Lw.main ns hl
    exact ⟨a, ns, x', rfl, Lw.only_seq hO hS, e, fun _ => rfl⟩) (fun _ _ _ _ _ h => h)
  case F =>
    intro w mg fa h KX G hmg
    refine' Lw.all_mk KX G hmg ?a_law_taken ?l_law_taken ?c_law_taken ?k_law_taken ?a_law_scene ?l_law_scene ?c_law_scene ?k_law_scene ?a_law_script ?l_law_script ?c_law_script ?k_law_script ?a_law_branches ?l_law_branches ?c_law_branches ?k_law_branches ?a_law_coming ?l_law_coming ?c_law_coming ?k_law_coming ?a_law_alike ?l_law_alike ?c_law_alike ?k_law_alike ?a_has_items ?l_has_items ?c_has_items ?k_has_items ?a_is_number ?l_is_number ?c_is_number ?k_is_number ?a_has_script_form ?l_has_script_form ?c_has_script_form ?k_has_script_form ?a_is_rising ?l_is_rising ?c_is_rising ?k_is_rising ?a_is_talk ?l_is_talk ?c_is_talk ?k_is_talk ?a_is_branch ?l_is_branch ?c_is_branch ?k_is_branch ?a_is_scene ?l_is_scene ?c_is_scene ?k_is_scene ?a_check_script ?l_check_script ?c_check_script ?k_check_script ?a_coming ?l_coming ?c_coming ?k_coming ?a_talks_from ?l_talks_from ?c_talks_from ?k_talks_from ?a_talk_web ?l_talk_web ?c_talk_web ?k_talk_web ?a_reached_scenes ?l_reached_scenes ?c_reached_scenes ?k_reached_scenes ?a_talks_that_come ?l_talks_that_come ?c_talks_that_come ?k_talks_that_come ?a_speakers ?l_speakers ?c_speakers ?k_speakers ?a_silent ?l_silent ?c_silent ?k_silent ?a_new_names ?l_new_names ?c_new_names ?k_new_names ?a_renamed_scene ?l_renamed_scene ?c_renamed_scene ?k_renamed_scene ?a_trimmed ?l_trimmed ?c_trimmed ?k_trimmed ?a_end_scenes ?l_end_scenes ?c_end_scenes ?k_end_scenes ?a_has_rounds ?l_has_rounds ?c_has_rounds ?k_has_rounds ?a_always_ends ?l_always_ends ?c_always_ends ?k_always_ends ?a_law ?l_law ?c_law ?k_law ?z_all ?z_any ?z_bool ?z_enumerate ?z_int ?z_isinstance ?z_len ?z_list ?z_range ?z_sorted ?z_str ?z_tuple ?q_LAST_WORD ?q_LEAST_ACTORS ?q_MOST_ACTORS ?q_MOST_SCENES
    (case a_law_taken => k_is); (case l_law_taken => k_is); (case c_law_taken => k_is); (case k_law_taken => k_is); (case a_law_scene => k_is); (case l_law_scene => k_is); (case c_law_scene => k_is); (case k_law_scene => k_is); (case a_law_script => k_is); (case l_law_script => k_is); (case c_law_script => k_is); (case k_law_script => k_is); (case a_law_branches => k_is); (case l_law_branches => k_is); (case c_law_branches => k_is); (case k_law_branches => k_is); (case a_law_coming => k_is); (case l_law_coming => k_is); (case c_law_coming => k_is); (case k_law_coming => k_is); (case a_law_alike => k_is); (case l_law_alike => k_is); (case c_law_alike => k_is); (case k_law_alike => k_is); (case a_has_items => k_is); (case l_has_items => k_is); (case c_has_items => k_is); (case k_has_items => k_is); (case a_is_number => k_is); (case l_is_number => k_is); (case c_is_number => k_is); (case k_is_number => k_is); (case a_has_script_form => k_is); (case l_has_script_form => k_is); (case c_has_script_form => k_is); (case k_has_script_form => k_is); (case a_is_rising => k_is); (case l_is_rising => k_is); (case c_is_rising => k_is); (case k_is_rising => k_is); (case a_is_talk => k_is); (case l_is_talk => k_is); (case c_is_talk => k_is); (case k_is_talk => k_is); (case a_is_branch => k_is); (case l_is_branch => k_is); (case c_is_branch => k_is); (case k_is_branch => k_is); (case a_is_scene => k_is); (case l_is_scene => k_is); (case c_is_scene => k_is); (case k_is_scene => k_is); (case a_check_script => k_is); (case l_check_script => k_is); (case c_check_script => k_is); (case k_check_script => k_is); (case a_coming => k_is); (case l_coming => k_is); (case c_coming => k_is); (case k_coming => k_is); (case a_talks_from => k_is); (case l_talks_from => k_is); (case c_talks_from => k_is); (case k_talks_from => k_is); (case a_talk_web => k_is); (case l_talk_web => k_is); (case c_talk_web => k_is); (case k_talk_web => k_is); (case a_reached_scenes => k_is); (case l_reached_scenes => k_is); (case c_reached_scenes => k_is); (case k_reached_scenes => k_is); (case a_talks_that_come => k_is); (case l_talks_that_come => k_is); (case c_talks_that_come => k_is); (case k_talks_that_come => k_is); (case a_speakers => k_is); (case l_speakers => k_is); (case c_speakers => k_is); (case k_speakers => k_is); (case a_silent => k_is); (case l_silent => k_is); (case c_silent => k_is); (case k_silent => k_is); (case a_new_names => k_is); (case l_new_names => k_is); (case c_new_names => k_is); (case k_new_names => k_is); (case a_renamed_scene => k_is); (case l_renamed_scene => k_is); (case c_renamed_scene => k_is); (case k_renamed_scene => k_is); (case a_trimmed => k_is); (case l_trimmed => k_is); (case c_trimmed => k_is); (case k_trimmed => k_is); (case a_end_scenes => k_is); (case l_end_scenes => k_is); (case c_end_scenes => k_is); (case k_end_scenes => k_is); (case a_has_rounds => k_is); (case l_has_rounds => k_is); (case c_has_rounds => k_is); (case k_has_rounds => k_is); (case a_always_ends => k_is); (case l_always_ends => k_is); (case c_always_ends => k_is); (case k_always_ends => k_is); (case a_law => k_is); (case l_law => k_is); (case c_law => k_is); (case k_law => k_is); (case z_all => k_is); (case z_any => k_is); (case z_bool => k_is); (case z_enumerate => k_is); (case z_int => k_is); (case z_isinstance => k_is); (case z_len => k_is); (case z_list => k_is); (case z_range => k_is); (case z_sorted => k_is); (case z_str => k_is); (case z_tuple => k_is); (case q_LAST_WORD => k_is); (case q_LEAST_ACTORS => k_is); (case q_MOST_ACTORS => k_is); (case q_MOST_SCENES => k_is)
