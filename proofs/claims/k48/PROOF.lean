import PyProof.Rows.All
import Wide.All
import OpenK.AllK
import Wide.FinOn
import Lean
import PyProof.EqAt
import PyProof.EqKinds
import PyProof.TupleCall
import PySem.Challenge.RW_sharewheel_k48_whole_bursts_alone
set_option Elab.async false
set_option linter.all false
set_option maxRecDepth 100000
namespace L2
open PySem PySem.Spec PyProof.Rows
abbrev Key:=Sum Int Str
def keyIs:Key→Value→Bool
  | .inl k,v=>Value.isInt k v
  | .inr x,v=>Value.isStrOf x v
def keyH (w:World):Key→Int
  | .inl k=>hashInt k
  | .inr x=>hashStr w x
theorem keyIs_shape:∀ {k:Key} {v:Value},keyIs k v=true→(∃ i t,k=Sum.inl i∧v=Value.int i t)∨(∃ x t,k=Sum.inr x∧v=Value.str x t)
  | .inl i,v,h=>by
    obtain ⟨t,e⟩:=Value.isInt_shape (k:=i) (v:=v) h
    exact .inl ⟨i,t,rfl,e⟩
  | .inr x,v,h=>by
    obtain ⟨t,e⟩:=Value.isStrOf_shape (x:=x) (v:=v) h
    exact .inr ⟨x,t,rfl,e⟩
theorem keyIs_int (i:Int) (t:Tok):keyIs (.inl i) (.int i t)=true:=by simp [keyIs,Value.isInt]
theorem keyIs_str (x:Str) (t:Tok):keyIs (.inr x) (.str x t)=true:=by simp [keyIs,Value.isStrOf]
theorem key_ll (a b:Int):decide ((Sum.inl a:Key)=Sum.inl b)=(a == b):=by
  by_cases e:a=b
  · subst e; simp
  · have h:¬ (Sum.inl a:Key)=Sum.inl b:=fun q=>e (Sum.inl.inj q)
    rw [decide_eq_false h]
    exact (beq_eq_false_iff_ne.mpr e).symm
theorem key_rr (a b:Str):decide ((Sum.inr a:Key)=Sum.inr b)=decide (a=b):=by
  by_cases e:a=b
  · subst e; simp
  · have h:¬ (Sum.inr a:Key)=Sum.inr b:=fun q=>e (Sum.inr.inj q)
    rw [decide_eq_false h,decide_eq_false e]
theorem key_lr (a:Int) (b:Str):decide ((Sum.inl a:Key)=Sum.inr b)=false:=decide_eq_false (fun q=>nomatch q)
theorem key_rl (a:Str) (b:Int):decide ((Sum.inr a:Key)=Sum.inl b)=false:=decide_eq_false (fun q=>nomatch q)
def mixKind (prog:Program) (w:World):PySem.KeyKind prog w Key where
  is:=keyIs
  hash:=keyH w
  inj:=fun v a b ha hb=>by
    rcases keyIs_shape ha with ⟨i,t,rfl,rfl⟩ | ⟨x,t,rfl,rfl⟩
    · rcases keyIs_shape hb with ⟨j,u,rfl,e⟩ | ⟨y,u,rfl,e⟩
      · injection e with e1 _; rw [e1]
      · exact nomatch e
    · rcases keyIs_shape hb with ⟨j,u,rfl,e⟩ | ⟨y,u,rfl,e⟩
      · exact nomatch e
      · injection e with e1 _; rw [e1]
  byValue:=fun k v h=>by
    rcases keyIs_shape h with ⟨i,t,rfl,rfl⟩ | ⟨x,t,rfl,rfl⟩ <;> rfl
  pyHash:=fun hv h=>by
    rcases keyIs_shape hv with ⟨i,t,rfl,rfl⟩ | ⟨x,t,rfl,rfl⟩
    · exact wpAny_pyHash_int h
    · exact wpAny_pyHash_str h
  eqBool:=fun hu hv h=>by
    rcases keyIs_shape hu with ⟨i,t,rfl,rfl⟩ | ⟨x,t,rfl,rfl⟩
    · rcases keyIs_shape hv with ⟨j,u,rfl,rfl⟩ | ⟨y,u,rfl,rfl⟩
      · rw [key_ll] at h; exact wpAny_eqBool_int h
      · rw [key_lr] at h; exact SeqAt.EqAt.int_str i t y u _ _ _ _ h
    · rcases keyIs_shape hv with ⟨j,u,rfl,rfl⟩ | ⟨y,u,rfl,rfl⟩
      · rw [key_rl] at h; exact SeqAt.EqAt.str_int x t j u _ _ _ _ h
      · rw [key_rr] at h; exact wpAny_eqBool_str h
  «strs»:=fun k x t v h=>by
    rcases keyIs_shape h with ⟨i,u,rfl,e⟩ | ⟨y,u,rfl,e⟩
    · exact nomatch e
    · injection e with e1 _
      subst e1
      cases v <;> rfl
theorem mixKind_int (prog:Program) (w:World) (i:Int) (t:Tok):(mixKind prog w).is (.inl i) (.int i t)=true:=keyIs_int i t
theorem mixKind_str (prog:Program) (w:World) (x:Str) (t:Tok):(mixKind prog w).is (.inr x) (.str x t)=true:=keyIs_str x t
end L2
namespace L2
open PySem PySem.Spec PyProof.Rows
inductive V where
  | non | bl (b:Bool) | int (i:Int) | str (x:Str) | byt (b:Array UInt8) | flt (b:UInt64) | ref (a:Addr) | ty (n:String)
  deriving DecidableEq
def RelV:V→Value→Prop
  | .non,u=>u=Value.none
  | .bl b,u=>u=Value.bool b
  | .int i,u=>∃ t,u=Value.int i t
  | .str x,u=>∃ t,u=Value.str x t
  | .byt b,u=>∃ t,u=Value.bytes b t
  | .flt b,u=>∃ t,u=Value.float b t
  | .ref a,u=>u=Value.ref a
  | .ty n,u=>u=Value.type n
abbrev Vals:List V→List Value→Prop:=Paired RelV
theorem Vals.length {xs:List V} {us:List Value} (r:Vals xs us):xs.length=us.length:=Paired.length r
theorem Vals.get:∀ {xs:List V} {us:List Value} {i:Nat} {x:V},Vals xs us→xs[i]? = some x→∃ u,us[i]? = some u∧RelV x u
  | _,_,_,_,.nil,e=>by simp at e
  | _,_,0,_,.cons r _,e=>by simp at e; subst e; exact ⟨_,rfl,r⟩
  | _,_,i+1,x,.cons _ t,e=>by
    obtain ⟨u,h1,h2⟩:=Vals.get (i:=i) (x:=x) t (by simpa using e)
    exact ⟨u,by simpa using h1,h2⟩
theorem Vals.set {x:V} {u:Value} (r:RelV x u):∀ {xs:List V} {us:List Value} (i:Nat),Vals xs us→Vals (xs.set i x) (us.set i u)
  | _,_,_,.nil=>.nil
  | _,_,0,.cons _ t=>.cons r t
  | _,_,i+1,.cons q t=>.cons q (Vals.set r i t)
theorem Vals.append:∀ {xs ys:List V} {us ws:List Value},Vals xs us→Vals ys ws→Vals (xs++ys) (us++ws)
  | _,_,_,_,.nil,s=>s
  | _,_,_,_,.cons r t,s=>.cons r (Vals.append t s)
theorem Vals.take:∀ {xs:List V} {us:List Value} (n:Nat),Vals xs us→Vals (xs.take n) (us.take n)
  | _,_,0,_=>.nil
  | _,_,_ + 1,.nil=>.nil
  | _,_,n+1,.cons r t=>.cons r (Vals.take n t)
theorem Vals.drop:∀ {xs:List V} {us:List Value} (n:Nat),Vals xs us→Vals (xs.drop n) (us.drop n)
  | _,_,0,r=>r
  | _,_,_ + 1,.nil=>.nil
  | _,_,n+1,.cons _ t=>Vals.drop n t
def RelO:Option V→Option Value→Prop
  | some v,some u=>RelV v u
  | none,none=>True
  | _,_=>False
def KV {κ:Type}:List (κ×V)→List (κ×Value)→Prop:=Paired fun (p:κ×V) (q:κ×Value)=>p.1=q.1∧RelV p.2 q.2
def kV:Key→V
  | .inl i=>.int i
  | .inr x=>.str x
inductive HO where
  | lst (xs:List V)
  | tup (xs:List V)
  | dK (kvs:List (Key×V)) | dT (kvs:List (List Key×V))
  | set (S:Int→Bool) (n:Nat)
  | ins (C dx:Addr) (fs:List (Str×V))
  | own (x:Addr)
  | xd (fs:List (Str×V))
  | met (f x:Addr)
  | rng (lo hi:Int)
  | frz (o:Obj) (u:HO)
  | tbl (ps:Array Value)
  | ext (φ:Heap→Prop)
abbrev Hp:=Addr→Option HO
def upd (H:Hp) (a:Addr) (o:HO):Hp:=fun b=>if b=a then some o else H b
theorem upd_same {H:Hp} {a:Addr} {o:HO}:upd H a o a=some o:=by unfold upd; rw [if_pos rfl]
theorem upd_ne {H:Hp} {a b:Addr} {o:HO} (h:b≠a):upd H a o b=H b:=by unfold upd; rw [if_neg h]
theorem upd_upd {H:Hp} {a:Addr} {o u:HO}:upd (upd H a o) a u=upd H a u:=by
  funext b; unfold upd; split <;> rfl
theorem ne_of {H:Hp} {a b:Addr} {o u:HO} (h:H a=some o) (h':H b=some u) (d:o≠u):a≠b:=by
  intro e; subst e; rw [h] at h'; exact d (Option.some.inj h')
theorem ne_of_none {H:Hp} {a b:Addr} {o:HO} (h:H a=some o) (h':H b=none):a≠b:=by
  intro e; subst e; rw [h] at h'; cases h'
section
variable (P:Program) (w:World)
def ObjOk (H:Hp) (h:Heap) (a:Addr):HO→Prop
  | .lst xs=>xs.length≤sizeLine∧∃ (its:List Value) (n:Nat),Vals xs its∧h.get? a=some { cls:=.type "list", data:=.seq its.toArray n }
  | .tup xs=>xs.length≤sizeLine∧∃ its:List Value,Vals xs its∧IsTup h a its.toArray
  | .dK kvs=>kvs.length≤sizeLine∧(a == sysModules)=false∧∃ vs,KV kvs vs∧h.DictOf (mixKind P w) a vs
  | .dT kvs=>kvs.length≤sizeLine∧(a == sysModules)=false∧∃ xs:List (List Key×Addr×Value),
      Paired (fun (p:List Key×V) (q:List Key×Addr×Value)=>p.1=q.1∧H q.2.1=some (.tup (p.1.map kV))∧RelV p.2 q.2.2) kvs xs ∧
      ∃ o es ep,h.get? a=some o∧o.ExactDict∧o.data = .dict es ep∧es.toList=xs.map (entryOfKey (tupleKind (mixKind P w)))∧(xs.map (·.1)).Nodup
  | .set S n=>h.SetOf (intKind P w) a S n
  | .ins C dx fs=>H dx=some (.own a)∧fs.length≤1000∧dx≠a∧h.get? a=some (PySem.W.instObj C dx) ∧
      ∃ mA,h.Ns1 dx mA∧(∀ f,RelO (fs.lookup f) (mA f))∧PySem.Within mA (fs.map (·.1))
  | .own _=>∃ o,h.get? a=some o
  | .xd fs=>∃ mA,h.Ns1 a mA∧∀ f,RelO (fs.lookup f) (mA f)
  | .rng lo hi=>∃ t u v,h.get? a=some { cls:=.type "range", data:=.fields #[.int lo t,.int hi u,.int 1 v] }
  | .frz o u=>h.get? a=some o∧ObjOk H h a u
  | .tbl ps=>h.get? a=some { cls:=.none,data:=.fields ps }
  | .met f x=>h.get? a=some (PySem.W.methodObj (.ref f) (.ref x))
  | .ext φ=>φ h∧(∃ o,h.get? a=some o)∧∀ h1 h2:Heap,φ h1→(∀ o,h1.get? a=some o→h2.get? a=some o)→φ h2
def HOk (H:Hp) (h:Heap):Prop:=∀ a o,H a=some o→ObjOk P w H h a o
end
section
variable {P:Program} {w:World} {H H':Hp} {h h':Heap} {a:Addr} {o:HO}
theorem ObjOk.lt (x:ObjOk P w H h a o):a<h.objs.size:=by
  cases o with
  | lst xs=>obtain ⟨_,_,_,_,e⟩:=x; exact Heap.lt_size e
  | tup xs=>obtain ⟨_,_,_,p⟩:=x; exact p.lt
  | dK kvs=>obtain ⟨_,_,_,_,o,_,_,e,_⟩:=x; exact Heap.lt_size e
  | dT kvs=>obtain ⟨_,_,_,_,o,_,_,e,_⟩:=x; exact Heap.lt_size e
  | set S n=>obtain ⟨o,_,_,_,e,_⟩:=x; exact Heap.lt_size e
  | ins C dx fs=>obtain ⟨_,_,_,e,_⟩:=x; exact Heap.lt_size e
  | own y=>obtain ⟨_,e⟩:=x; exact Heap.lt_size e
  | xd fs=>obtain ⟨_,⟨_,_,_,e,_⟩,_⟩:=x; exact Heap.lt_size e
  | rng lo hi=>obtain ⟨_,_,_,e⟩:=x; exact Heap.lt_size e
  | frz ob u=>obtain ⟨e,_⟩:=x; exact Heap.lt_size e
  | tbl ps=>exact Heap.lt_size (show h.get? a=some _ from x)
  | met f y=>exact Heap.lt_size (show h.get? a=some _ from x)
  | ext φ=>obtain ⟨_,⟨_,e⟩,_⟩:=x; exact Heap.lt_size e
theorem Paired.mapP {α β:Type} {F G:α→β→Prop}:∀ {l₁:List α} {l₂:List β},Paired F l₁ l₂→(∀ a b,F a b→G a b)→Paired G l₁ l₂
  | _,_,.nil,_=>.nil
  | _,_,.cons r t,f=>.cons (f _ _ r) (Paired.mapP t f)
theorem ObjOk.stay (x:ObjOk P w H h a o) (k:∀ b u,(b=a∨H b=some (.own a))→h.get? b=some u→h'.get? b=some u)
    (ho:∀ b,H b=some (.own a)→H' b=some (.own a)) (ht:∀ b xs,H b=some (.tup xs)→H' b=some (.tup xs)):ObjOk P w H' h' a o:=by
  induction o with
  | lst xs=>obtain ⟨z,its,n,r,e⟩:=x; exact ⟨z,its,n,r,k _ _ (.inl rfl) e⟩
  | tup xs=>obtain ⟨z,its,r,ob,e,c⟩:=x; exact ⟨z,its,r,ob,k _ _ (.inl rfl) e,c⟩
  | dK kvs=>obtain ⟨z,y,vs,r,ob,es,ep,e,c⟩:=x; exact ⟨z,y,vs,r,ob,es,ep,k _ _ (.inl rfl) e,c⟩
  | dT kvs =>
    obtain ⟨z,y,xs,r,ob,es,ep,e,c⟩:=x
    exact ⟨z,y,xs,Paired.mapP r fun p q z=>⟨z.1,ht _ _ z.2.1,z.2.2⟩,ob,es,ep,k _ _ (.inl rfl) e,c⟩
  | set S n=>obtain ⟨ob,es,ep,t,e,c⟩:=x; exact ⟨ob,es,ep,t,k _ _ (.inl rfl) e,c⟩
  | ins C dx fs =>
    obtain ⟨d,z,ne,e,mA,⟨od,es,ep,e2,c⟩,r⟩:=x
    exact ⟨ho _ d,z,ne,k _ _ (.inl rfl) e,mA,⟨od,es,ep,k _ _ (.inr d) e2,c⟩,r⟩
  | own y=>obtain ⟨ob,e⟩:=x; exact ⟨ob,k _ _ (.inl rfl) e⟩
  | xd fs=>obtain ⟨mA,⟨od,es,ep,e,c⟩,r⟩:=x; exact ⟨mA,⟨od,es,ep,k _ _ (.inl rfl) e,c⟩,r⟩
  | rng lo hi=>obtain ⟨t,u,v,e⟩:=x; exact ⟨t,u,v,k _ _ (.inl rfl) e⟩
  | frz ob u ih=>obtain ⟨e,q⟩:=x; exact ⟨k _ _ (.inl rfl) e,ih q⟩
  | tbl ps =>
    have e:h.get? a=some { cls:=.none,data:=.fields ps }:=x
    show h'.get? a=some { cls:=.none,data:=.fields ps }
    exact k a _ (.inl rfl) e
  | met f y =>
    have e:h.get? a=some (PySem.W.methodObj (.ref f) (.ref y)):=x
    show h'.get? a=some (PySem.W.methodObj (.ref f) (.ref y))
    exact k a _ (.inl rfl) e
  | ext φ=>obtain ⟨p,⟨o,e⟩,st⟩:=x; exact ⟨st _ _ p fun o q=>k _ _ (.inl rfl) q,⟨o,k _ _ (.inl rfl) e⟩,st⟩
theorem HOk.lt (x:HOk P w H h) (e:H a=some o):a<h.objs.size:=(x a o e).lt
theorem HOk.fresh (x:HOk P w H h) (e:h.objs.size≤a):H a=none:=by
  cases q:H a with
  | none=>rfl
  | some u=>exact absurd (Nat.lt_of_lt_of_le (x.lt q) e) (Nat.lt_irrefl _)
theorem HOk.kept (x:HOk P w H h) (k:∀ b u,h.get? b=some u→h'.get? b=some u):HOk P w H h':=fun a o e =>
  (x a o e).stay (fun b u _ q=>k b u q) (fun _ q=>q) fun _ _ q=>q
theorem HOk.laid (x:HOk P w H h) (k:∀ b u,h.get? b=some u→h'.get? b=some u) (hp:h.objs.size≤a) (new:ObjOk P w (upd H a o) h' a o):HOk P w (upd H a o) h':=fun b u e=>by
  have hn:=x.fresh hp
  by_cases hb:b=a
  · subst hb; rw [upd_same] at e; cases e; exact new
  · rw [upd_ne hb] at e
    exact (x b u e).stay (fun c v _ q=>k c v q) (fun c q=>by rw [upd_ne (ne_of_none q hn)]; exact q) fun c xs q=>by rw [upd_ne (ne_of_none q hn)]; exact q
end
def Rd (H:Hp) (a:Addr) (u:HO):Prop:=H a=some u∨∃ o,H a=some (.frz o u)
theorem Rd.ok {P:Program} {w:World} {H:Hp} {h:Heap} {a:Addr} {u:HO} (r:Rd H a u) (x:HOk P w H h):ObjOk P w H h a u:=by
  rcases r with r | ⟨o,r⟩
  · exact x a u r
  · obtain ⟨_,q⟩:=x a _ r
    exact q
def Mut:Option HO→Prop
  | some (.lst _)=>True
  | some (.dK _)=>True
  | some (.dT _)=>True
  | some (.set _ _)=>True
  | some (.ins _ _ _)=>True
  | some (.ext _)=>True
  | _=>False
section
variable {P:Program} {w:World} {H:Hp} {h h':Heap} {x e:Addr} {o':HO}
theorem HOk.write (ok:HOk P w H h) (mu:Mut (H x)) (he:e=x∨H e=some (.own x)) (k:∀ b u,b≠e→h.get? b=some u→h'.get? b=some u) (heo:∃ u,h'.get? e=some u)
    (new:ObjOk P w (upd H x o') h' x o'):HOk P w (upd H x o') h':=fun b u q=>by
  have nown:∀ c y,H c=some (.own y)→c≠x:=fun c y r z=>by subst z; rw [r] at mu; exact mu
  have ntup:∀ c xs,H c=some (.tup xs)→c≠x:=fun c xs r z=>by subst z; rw [r] at mu; exact mu
  by_cases hb:b=x
  · subst hb; rw [upd_same] at q; cases q; exact new
  · rw [upd_ne hb] at q
    by_cases hbe:b=e
    · have q':H b=some (.own x):=by
        rcases he with z | z
        · exact absurd (hbe.trans z) hb
        · rw [hbe]; exact z
      rw [q] at q'; cases q'
      obtain ⟨v,hv⟩:=heo
      exact ⟨v,by rw [hbe]; exact hv⟩
    · refine (ok b u q).stay (fun c v hc r=>k c v ?_ r) (fun c r=>by rw [upd_ne (nown c b r)]; exact r) fun c xs r=>by rw [upd_ne (ntup c xs r)]; exact r
      rcases hc with rfl | hc
      · exact hbe
      · rintro rfl
        rcases he with z | z
        · exact nown c b hc z
        · rw [hc] at z; cases z; exact hb rfl
end
structure Un (fs ex:List Addr) (H H':Hp) (h h':Heap):Prop where
  keep:∀ b o,h.get? b=some o→H b=none→b ∉ fs→b ∉ ex→h'.get? b=some o
  slot:∀ b o,h.get? b=some o→H b=none→b∈fs→b ∉ ex→∃ sl,h'.get? b=some { o with slots:=sl }
  free:∀ b o,h.get? b=some o→H b=none→b ∉ ex→H' b=none
  there:∀ b o,h.get? b=some o→b ∉ ex→∃ o',h'.get? b=some o'
  tups:∀ b xs,H b=some (.tup xs)→H' b=some (.tup xs)
  frzs:∀ b o u,H b=some (.frz o u)→H' b=some (.frz o u)
  tbls:∀ b ps,H b=some (.tbl ps)→∃ more,H' b=some (.tbl (ps++more))
section
variable {fs fs' ex ex':List Addr} {H H1 H2:Hp} {h h1 h2 h':Heap} {a x e:Addr} {o:HO}
theorem Un.any (u:Un fs ex H H1 h h1) {b:Addr} {ob:Obj} (q:h.get? b=some ob) (n:H b=none) (hx:b ∉ ex):∃ sl,h1.get? b=some { ob with slots:=sl }:=by
  by_cases hb:b∈fs
  · exact u.slot b ob q n hb hx
  · exact ⟨ob.slots,u.keep b ob q n hb hx⟩
theorem Un.kept (k:∀ b u,h.get? b=some u→h'.get? b=some u):Un fs ex H H h h' :=
  ⟨fun b ob q _ _ _=>k b ob q,fun b ob q _ _ _=>⟨ob.slots,k b ob q⟩,fun _ _ _ n _=>n,fun b ob q _=>⟨ob,k b ob q⟩,fun _ _ q=>q,fun _ _ _ q=>q,fun _ ps q=>⟨#[],by rw [q]; simp⟩⟩
theorem Un.refl:Un fs ex H H h h:=Un.kept fun _ _ q=>q
theorem Un.laid (k:∀ b u,h.get? b=some u→h'.get? b=some u) (hp:h.objs.size≤a) (hn:H a=none):Un fs ex H (upd H a o) h h' where
  keep:=fun b u q _ _ _=>k b u q
  slot:=fun b u q _ _ _=>⟨u.slots,k b u q⟩
  free:=fun b u q n _=>by rw [upd_ne (Nat.ne_of_lt (Nat.lt_of_lt_of_le (Heap.lt_size q) hp))]; exact n
  there:=fun b u q _=>⟨u,k b u q⟩
  tups:=fun b xs q=>by rw [upd_ne (ne_of_none q hn)]; exact q
  frzs:=fun b u xs q=>by rw [upd_ne (ne_of_none q hn)]; exact q
  tbls:=fun b ps q=>⟨#[],by rw [upd_ne (ne_of_none q hn),q]; simp⟩
theorem Un.write (mu:Mut (H x)) (he:e=x∨H e=some (.own x)) (k:∀ b u,b≠e→h.get? b=some u→h'.get? b=some u) (heo:∃ u,h'.get? e=some u):Un fs ex H (upd H x o) h h':=by
  have hx:∀ b,H b=none→b≠x:=fun b n z=>by subst z; rw [n] at mu; exact mu
  have hb:∀ b,H b=none→b≠e:=fun b n z=>by
    subst z
    rcases he with r | r
    · exact hx b n r
    · rw [n] at r; cases r
  have hm:∀ b u,H b=some u→¬ Mut (some u)→b≠x:=fun b u q nm z=>by subst z; rw [q] at mu; exact nm mu
  refine ⟨fun b u q n _ _=>k b u (hb b n) q,fun b u q n _ _=>⟨u.slots,k b u (hb b n) q⟩,fun b u q n _=>by rw [upd_ne (hx b n)]; exact n,fun b u q _=>?_,
    fun b xs q=>by rw [upd_ne (hm b _ q fun z=>z)]; exact q,fun b u xs q=>by rw [upd_ne (hm b _ q fun z=>z)]; exact q,fun b ps q=>⟨#[],by rw [upd_ne (hm b _ q fun z=>z),q]; simp⟩⟩
  by_cases hbe:b=e
  · subst hbe; exact heo
  · exact ⟨u,k b u hbe q⟩
end
def trk (h:Heap) (H:Hp):List Addr:=(List.range h.objs.size).filter fun a=>(H a).isSome
def hidT (h:Heap) (H:Hp):Heap:=PySem.W.hideAll h (trk h H)
theorem hidT_size (h:Heap) (H:Hp):(hidT h H).objs.size=h.objs.size:=PySem.W.hideAll_size _ _
theorem hidT_get {h:Heap} {H:Hp} {b:Addr} {o:Obj} (e:h.get? b=some o) (n:H b=none):(hidT h H).get? b=some o :=
  PySem.W.hideAll_get _ e fun hm=>by
    have q:(H b).isSome=true:=(List.mem_filter.mp hm).2
    rw [n] at q; simp at q
theorem of_hidT {h:Heap} {H:Hp} {b:Addr} {o:Obj} (e:(hidT h H).get? b=some o):h.get? b=some o∧H b=none:=by
  have e':h.get? b=some o:=PySem.W.of_hideAll (trk h H) e
  refine ⟨e',?_⟩
  cases q:H b with
  | none=>rfl
  | some x =>
    have hm:b∈trk h H:=List.mem_filter.mpr ⟨List.mem_range.mpr (Heap.lt_size e'),by simp [q]⟩
    have z:(hidT h H).get? b=none:=PySem.W.hideAll_none (trk h H) hm
    rw [z] at e; cases e
def allNews (g h:Heap) (L:Addr):List (Addr×Obj):=(List.range h.objs.size).filterMap fun a=>if a=L∨(g.get? a).isSome=true then none else (h.get? a).map fun o=>(a,o)
def rest (g h:Heap) (L d:Addr):List (Addr×Obj):=(allNews g h L).filter fun p=>decide (p.1≠d)
end L2
namespace L2
open PySem PySem.Spec PyProof.Rows
structure Mod (K:PySem.W.Frag) (mg:Str→Option Value) (base:Heap):Prop where
  kin:K.In base
  glob:base.Ns mainGlobals mg
  blt:∃ mb,base.Ns builtinsNs mb∧∀ x:Str,x ≠ "__name__" → mb x=bootBuiltins x
  nolimit:base.NoLimit
structure Cx where
  prog:Program
  w:World
  K:PySem.W.Frag
  mg:Str→Option Value
  base:Heap
  A:Around
  N:List Str
  s₀:Shared
  H₀:Hp
  env:Env
  outer:List Env
  stack:List Env
  ex:List Addr
  fn:Str→Bool
  calm:Bool
  pn:List (Addr×Obj)
  xe:Value→Shared→Prop
def frs (l:List Env):List Addr:=l.filterMap (·.frame)
abbrev Cx.fs (X:Cx):List Addr:=frs X.outer
def Vis (sc:Scope) (x:Str):Prop:=sc.names.lookup x=some .local∨sc.names.lookup x=some .cell∨sc.names.lookup x=some .free
def Loc (sc:Scope) (x:Str):Prop:=sc.names.lookup x=some .local∨sc.names.lookup x=some .cell
def Look (env:Env) (h:Heap) (m:Str→Option Value) (x:Str) (u:Value):Prop :=
  (env.kindOf x=some .local∧m x=some u)∨((env.kindOf x=some .cell∨env.kindOf x=some .free)∧∃ c,env.cells.lookup x=some c∧h.IsCell c (some u))
structure Cx.Ok (X:Cx):Prop where
  mod:Mod X.K X.mg X.base
  kind:X.env.scope.kind = .function
  glob:X.env.globals=mainGlobals
  blt:X.env.builtins=builtinsNs
  above:X.s₀.heap.objs.size≤X.env.locals
  inj:∀ x y c,X.env.cells.lookup x=some c→X.env.cells.lookup y=some c→x=y
  has:∀ x,(X.env.kindOf x=some .cell∨X.env.kindOf x=some .free)→∃ c,X.env.cells.lookup x=some c
  cab:∀ x c,X.fn x=true→X.env.cells.lookup x=some c→X.s₀.heap.objs.size≤c
  hd:X.calm=true→X.A.handled=none
  frames:X.A.frames=some X.stack
  stk:X.stack=X.outer∨(X.stack=X.env :: X.outer∧X.env.frame=some X.env.locals)
  exf:∀ b∈X.ex,b≠X.env.locals∧∀ x c,X.env.cells.lookup x=some c→c≠b
  bs:∀ b o,X.base.get? b=some o→X.s₀.heap.get? b=some o∧X.H₀ b=none
  bsz:X.base.objs.size≤X.s₀.heap.objs.size
  noex:∀ b o,X.base.get? b=some o→b ∉ X.ex
  exfs:∀ b∈X.ex,b ∉ X.fs
  funs:X.s₀.heap.FunFrames X.base X.outer
  frf:∀ b∈X.fs,X.H₀ b=none
structure Inv (X:Cx) (pins:List (Addr×Obj)) (σ:List (Option V)) (H:Hp) (s:Shared):Prop where
  ok:X.Ok
  os:s.os=X.s₀.os
  bare:AllBare s.gens
  base:Un X.fs X.ex X.H₀ H X.s₀.heap s.heap
  loc:∃ m,s.heap.Ns X.env.locals m∧∀ (i:Nat) (x:Str) (v:V),X.N[i]? = some x→σ[i]? = some (some v)→Vis X.env.scope x→∃ u,RelV v u∧Look X.env s.heap m x u
  cell:∀ x c,X.env.cells.lookup x=some c→∃ v,s.heap.IsCell c v
  free:H X.env.locals=none
  freeC:∀ x c,X.env.cells.lookup x=some c→H c=none
  pin:∀ p∈X.pn++pins,s.heap.get? p.1=some p.2∧H p.1=none∧p.1≠X.env.locals∧p.1 ∉ X.fs∧∀ v,p.2.data≠.cell v
  hok:HOk X.prog X.w H s.heap
  len:σ.length=X.N.length
section
variable {X:Cx} {pins:List (Addr×Obj)} {σ:List (Option V)} {H H':Hp} {s:Shared} {h':Heap}
theorem Cx.Ok.nofr (ok:X.Ok) {b:Addr} {o:Obj} (e:X.base.get? b=some o):b ∉ X.fs:=fun hb=>by
  have:=(ok.funs.mem hb).1
  rw [e] at this; cases this
theorem Inv.bs (I:Inv X pins σ H s):∀ b o,X.base.get? b=some o→s.heap.get? b=some o∧H b=none:=fun b o e =>
  ⟨I.base.keep b o (I.ok.bs b o e).1 (I.ok.bs b o e).2 (I.ok.nofr e) (I.ok.noex b o e),I.base.free b o (I.ok.bs b o e).1 (I.ok.bs b o e).2 (I.ok.noex b o e)⟩
theorem Inv.bk (I:Inv X pins σ H s):∀ b o,X.base.get? b=some o→s.heap.get? b=some o:=fun b o e=>(I.bs b o e).1
theorem Inv.mod (I:Inv X pins σ H s):Mod X.K X.mg X.base:=I.ok.mod
theorem Inv.kIn (I:Inv X pins σ H s):X.K.In s.heap:=I.ok.mod.kin.keeps I.bk
theorem Inv.lt (I:Inv X pins σ H s):X.env.locals<s.heap.objs.size:=let ⟨_,hn,_⟩:=I.loc; hn.lt
theorem Inv.sz (I:Inv X pins σ H s):X.s₀.heap.objs.size≤s.heap.objs.size:=Nat.le_trans I.ok.above (Nat.le_of_lt I.lt)
theorem Inv.nofs (I:Inv X pins σ H s) {a:Addr} (h:s.heap.objs.size≤a):a ∉ X.fs:=fun hb=>by
  obtain ⟨_,o,ho,_⟩:=I.ok.funs.mem hb
  exact absurd (Nat.lt_of_lt_of_le (Heap.lt_size ho) (Nat.le_trans I.sz h)) (Nat.lt_irrefl _)
theorem Inv.cne (I:Inv X pins σ H s):∀ x c,X.env.cells.lookup x=some c→c≠X.env.locals:=fun x c e z=>by
  obtain ⟨v,o,ho,hd⟩:=I.cell x c e
  obtain ⟨m,⟨o',es,ep,ho',hd',_⟩,_⟩:=I.loc
  rw [z,ho'] at ho; cases ho; rw [hd'] at hd; cases hd
theorem Inv.funs (I:Inv X pins σ H s):s.heap.FunFrames X.base X.outer:=by
  have all:∀ (l:List Env),(∀ b∈frs l,b∈X.fs)→X.s₀.heap.FunFrames X.base l→s.heap.FunFrames X.base l:=by
    intro l
    induction l with
    | nil=>intro _ _; trivial
    | cons env r ih =>
      intro hs hl
      obtain ⟨hk,⟨L,o,hf,hn,ho,hd⟩,hr⟩:=hl
      have hL:L∈X.fs:=hs L (by unfold frs; rw [List.filterMap_cons,hf]; exact List.mem_cons_self)
      obtain ⟨sl,e⟩:=I.base.slot L o ho (I.ok.frf L hL) hL fun z=>I.ok.exfs L z hL
      exact ⟨hk,⟨L,_,hf,hn,e,hd⟩,ih (fun b hb=>hs b (by unfold frs; rw [List.filterMap_cons,hf]; exact List.mem_cons_of_mem _ hb)) hr⟩
  exact all X.outer (fun _ hb=>hb) I.ok.funs
theorem Inv.stack (I:Inv X pins σ H s):s.heap.FunFrames X.base X.stack:=by
  rcases I.ok.stk with e | ⟨e,hf⟩
  · rw [e]; exact I.funs
  · rw [e]
    obtain ⟨m,hn,_⟩:=I.loc
    refine .cons (by rw [I.ok.kind]; decide) hf hn ?_ I.funs
    exact Heap.get?_none_of_le (Nat.le_trans I.ok.bsz I.ok.above)
theorem Inv.stkSub (I:Inv X pins σ H s):∀ b∈frs X.stack,b∈X.env.locals :: X.fs:=fun b hb=>by
  rcases I.ok.stk with e | ⟨e,hf⟩
  · rw [e] at hb; exact List.mem_cons_of_mem _ hb
  · rw [e] at hb
    unfold frs at hb
    rw [List.filterMap_cons,hf] at hb
    exact hb
theorem Inv.stkFree (I:Inv X pins σ H s):∀ b∈frs X.stack,H b=none:=fun b hb=>by
  rcases List.mem_cons.mp (I.stkSub b hb) with e | hb
  · rw [e]; exact I.free
  · obtain ⟨_,o,ho,_⟩:=I.ok.funs.mem hb
    exact I.base.free b o ho (I.ok.frf b hb) fun z=>I.ok.exfs b z hb
theorem Inv.step {g':Array GenState} {t':Nat} {d':Drawn} {ch:List Addr} (I:Inv X pins σ H s)
    (hch:∀ b∈ch,(b∈X.ex∨X.s₀.heap.objs.size≤b)∧b≠X.env.locals∧(∀ x c,X.env.cells.lookup x=some c→c≠b)∧∀ p∈X.pn++pins,p.1≠b)
    (keep:∀ b o,b≠X.env.locals→b ∉ X.fs→b ∉ ch→s.heap.get? b=some o→H b=none→h'.get? b=some o)
    (slot:∀ b o,b≠X.env.locals→b∈X.fs→b ∉ ch→s.heap.get? b=some o→H b=none→∃ sl,h'.get? b=some { o with slots:=sl }) (free:∀ b o,b ∉ ch→s.heap.get? b=some o→H b=none→H' b=none)
    (there:∀ b o,b ∉ ch→s.heap.get? b=some o→∃ o',h'.get? b=some o')
    (tups:∀ b xs,H b=some (.tup xs)→H' b=some (.tup xs)) (frzs:∀ b o u,H b=some (.frz o u)→H' b=some (.frz o u)) (tbls:∀ b ps,H b=some (.tbl ps)→∃ more,H' b=some (.tbl (ps++more)))
    (ns:∀ m,s.heap.Ns X.env.locals m→h'.Ns X.env.locals m) (hok:HOk X.prog X.w H' h') (hg:AllBare g') :
    Inv X pins σ H' { s with heap:=h',gens:=g',drawn:=d',toks:=t' }:=by
  have neL:∀ b o,X.s₀.heap.get? b=some o→b≠X.env.locals:=fun b o e=>Nat.ne_of_lt (Nat.lt_of_lt_of_le (Heap.lt_size e) I.ok.above)
  have neC:∀ b o,X.s₀.heap.get? b=some o→b ∉ X.ex→b ∉ ch:=fun b o e hx hb=>by
    rcases (hch b hb).1 with z | z
    · exact hx z
    · exact absurd (Nat.lt_of_lt_of_le (Heap.lt_size e) z) (Nat.lt_irrefl _)
  have cellK:∀ x c,X.env.cells.lookup x=some c→∀ v,s.heap.IsCell c v→h'.IsCell c v:=fun x c e v ⟨o,ho,hd⟩=>by
    have nch:c ∉ ch:=fun z=>(hch c z).2.2.1 x c e rfl
    by_cases hc:c∈X.fs
    · obtain ⟨sl,q⟩:=slot c o (I.cne x c e) hc nch ho (I.freeC x c e)
      exact ⟨_,q,hd⟩
    · exact ⟨o,keep c o (I.cne x c e) hc nch ho (I.freeC x c e),hd⟩
  refine ⟨I.ok,I.os,hg,⟨fun b o e n hb hx=>?_,fun b o e n hb hx=>?_,fun b o e n hx=>?_,fun b o e hx=>?_,fun b xs e=>tups b xs (I.base.tups b xs e),fun b o xs e=>frzs b o xs (I.base.frzs b o xs e),fun b ps e=>?_⟩,?_,fun x c e=>?_,?_,fun x c e=>?_,fun p hp=>?_,hok,I.len⟩
  · exact keep b o (neL b o e) hb (neC b o e hx) (I.base.keep b o e n hb hx) (I.base.free b o e n hx)
  · obtain ⟨sl,e1⟩:=I.base.slot b o e n hb hx
    obtain ⟨sl',e2⟩:=slot b _ (neL b o e) hb (neC b o e hx) e1 (I.base.free b o e n hx)
    exact ⟨sl',e2⟩
  · obtain ⟨o',e1⟩:=I.base.there b o e hx
    exact free b o' (neC b o e hx) e1 (I.base.free b o e n hx)
  · obtain ⟨o',e1⟩:=I.base.there b o e hx
    exact there b o' (neC b o e hx) e1
  · obtain ⟨m1,e1⟩:=I.base.tbls b ps e
    obtain ⟨m2,e2⟩:=tbls b _ e1
    exact ⟨m1++m2,by rw [e2,Array.append_assoc]⟩
  · obtain ⟨m,hn,hl⟩:=I.loc
    refine ⟨m,ns m hn,fun i x v e1 e2 e3=>?_⟩
    obtain ⟨u,r,l⟩:=hl i x v e1 e2 e3
    refine ⟨u,r,?_⟩
    rcases l with l | ⟨k,c,e,z⟩
    · exact .inl l
    · exact .inr ⟨k,c,e,cellK x c e _ z⟩
  · obtain ⟨v,z⟩:=I.cell x c e
    exact ⟨v,cellK x c e v z⟩
  · obtain ⟨m,⟨o,_,_,ho,_⟩,_⟩:=I.loc
    exact free _ o (fun z=>(hch _ z).2.1 rfl) ho I.free
  · obtain ⟨v,o,ho,hd⟩:=I.cell x c e
    exact free c o (fun z=>(hch c z).2.2.1 x c e rfl) ho (I.freeC x c e)
  · obtain ⟨e,n,ne,nf,d⟩:=I.pin p hp
    have nch:p.1 ∉ ch:=fun z=>(hch p.1 z).2.2.2 p hp rfl
    exact ⟨keep p.1 p.2 ne nf nch e n,free p.1 p.2 nch e n,ne,nf,d⟩
theorem Inv.un {t':Nat} (I:Inv X pins σ H s) (u:Un X.fs [] H H' s.heap h') (hok:HOk X.prog X.w H' h'):Inv X pins σ H' { s with heap:=h',toks:=t' }:=by
  obtain ⟨m,⟨o,es,ep,ho,r⟩,_⟩:=id I.loc
  obtain ⟨sl,hL⟩:=u.any ho I.free (by simp)
  exact I.step (g':=s.gens) (d':=s.drawn) (ch:=[]) (fun _ z=>nomatch z) (fun b o _ hb _ e n=>u.keep b o e n hb (by simp)) (fun b o _ hb _ e n=>u.slot b o e n hb (by simp)) (fun b o _ e n=>u.free b o e n (by simp)) (fun b o _ e=>u.there b o e (by simp)) u.tups u.frzs u.tbls (fun m' hm=>by
    obtain ⟨o',es',ep',ho',r'⟩:=hm
    rw [ho] at ho'; cases ho'
    exact ⟨_,es',ep',hL,r'⟩) hok I.bare
theorem Inv.call {g':Array GenState} {t':Nat} {d':Drawn} {ch:List Addr} (I:Inv X pins σ H s) (u:Un (frs X.stack) ch H H' s.heap h') (hok:HOk X.prog X.w H' h') (hg:AllBare g')
    (hch:∀ b∈ch,(b∈X.ex∨X.s₀.heap.objs.size≤b)∧b≠X.env.locals∧(∀ x c,X.env.cells.lookup x=some c→c≠b)∧∀ p∈X.pn++pins,p.1≠b) :
    Inv X pins σ H' { s with heap:=h',gens:=g',drawn:=d',toks:=t' }:=by
  obtain ⟨m,⟨o,es,ep,ho,r⟩,_⟩:=id I.loc
  obtain ⟨sl,hL⟩:=u.any ho I.free fun z=>(hch _ z).2.1 rfl
  exact I.step (ch:=ch) hch (fun b o hL hb hc e n=>u.keep b o e n (fun z=>(List.mem_cons.mp (I.stkSub b z)).elim hL hb) hc) (fun b o _ _ hc e n=>u.any e n hc) (fun b o hc e n=>u.free b o e n hc) (fun b o hc e=>u.there b o e hc) u.tups u.frzs u.tbls (fun m' hm=>by
    obtain ⟨o',es',ep',ho',r'⟩:=hm
    rw [ho] at ho'; cases ho'
    exact ⟨_,es',ep',hL,r'⟩) hok hg
theorem Inv.turned {t':Nat} {it:Addr} (I:Inv X pins σ H s) (k:∀ b o,b≠it→s.heap.get? b=some o→h'.get? b=some o) (hn:H it=none) (hL:it≠X.env.locals)
    (h1:it∈X.ex∨X.s₀.heap.objs.size≤it) (h2:∀ x c,X.env.cells.lookup x=some c→c≠it) (h3:∀ p∈X.pn++pins,p.1≠it):Inv X pins σ H { s with heap:=h',toks:=t' }:=by
  have nit:∀ b u,H b=some u→b≠it:=fun b u e z=>by rw [z,hn] at e; cases e
  refine I.step (g':=s.gens) (d':=s.drawn) (ch:=[it]) (fun b hb=>?_) (fun b o _ _ hc e _=>k b o (fun z=>hc (by simp [z])) e) (fun b o _ _ hc e _=>⟨o.slots,k b o (fun z=>hc (by simp [z])) e⟩) (fun _ _ _ _ n=>n)
    (fun b o hc e=>⟨o,k b o (fun z=>hc (by simp [z])) e⟩) (fun _ _ e=>e) (fun _ _ _ e=>e) (fun b ps e=>⟨#[],by rw [e]; simp⟩) (fun m hm=>?_) (fun b u e=>?_) I.bare
  · have e:b=it:=by simpa using hb
    subst e
    exact ⟨h1,hL,h2,h3⟩
  · obtain ⟨o,es,ep,ho,r⟩:=hm
    exact ⟨o,es,ep,k _ o (Ne.symm hL) ho,r⟩
  · refine (I.hok b u e).stay (fun c v hc q=>k c v ?_ q) (fun _ q=>q) fun _ _ q=>q
    rcases hc with z | z
    · rw [z]; exact nit b u e
    · exact nit c _ z
theorem Inv.tok (I:Inv X pins σ H s) (t:Nat):Inv X pins σ H { s with toks:=t }:=I.un (h':=s.heap) (t':=t) Un.refl I.hok
theorem Inv.kept {t':Nat} (I:Inv X pins σ H s) (k:∀ b u,s.heap.get? b=some u→h'.get? b=some u):Inv X pins σ H { s with heap:=h',toks:=t' }:=I.un (Un.kept k) (I.hok.kept k)
theorem Inv.laid {a:Addr} {o:HO} {t':Nat} (I:Inv X pins σ H s) (k:∀ b u,s.heap.get? b=some u→h'.get? b=some u) (hp:s.heap.objs.size≤a) (new:ObjOk X.prog X.w (upd H a o) h' a o) :
    Inv X pins σ (upd H a o) { s with heap:=h',toks:=t' }:=I.un (Un.laid k hp (I.hok.fresh hp)) (I.hok.laid k hp new)
theorem Inv.write {x e:Addr} {o:HO} {t':Nat} (I:Inv X pins σ H s) (mu:Mut (H x)) (he:e=x∨H e=some (.own x)) (k:∀ b u,b≠e→s.heap.get? b=some u→h'.get? b=some u) (heo:∃ u,h'.get? e=some u)
    (new:ObjOk X.prog X.w (upd H x o) h' x o):Inv X pins σ (upd H x o) { s with heap:=h',toks:=t' }:=I.un (Un.write mu he k heo) (I.hok.write mu he k heo new)
theorem Inv.pins_of {pins':List (Addr×Obj)} (I:Inv X pins σ H s) (h:∀ p∈pins',s.heap.get? p.1=some p.2∧H p.1=none∧p.1≠X.env.locals∧p.1 ∉ X.fs∧∀ v,p.2.data≠.cell v):Inv X pins' σ H s :=
  ⟨I.ok,I.os,I.bare,I.base,I.loc,I.cell,I.free,I.freeC,fun p hp=>(List.mem_append.mp hp).elim (fun z=>I.pin p (List.mem_append_left _ z)) (h p),I.hok,I.len⟩
theorem nodup_ix {N:List Str} (hN:N.Nodup) {i j:Nat} {x:Str} (a:N[i]? = some x) (b:N[j]? = some x):i=j:=by
  obtain ⟨h1,e1⟩:=List.getElem?_eq_some_iff.mp a
  obtain ⟨h2,e2⟩:=List.getElem?_eq_some_iff.mp b
  exact (List.getElem_inj hN).mp (e1.trans e2.symm)
theorem store_ok2 {M:Model} {A:Around} {E:Value→Shared→Prop} {i:Nat} {x:Str} {v:V} {u:Value} {Q:Unit→Shared→Prop} (I:Inv X pins σ H s) (hN:X.N.Nodup) (hi:X.N[i]? = some x) (hx:Loc X.env.scope x) (r:RelV v u)
    (h:∀ s',Inv X pins (σ.set i (some v)) H s'→(∃ a,Heap.SameBut a s.heap s'.heap∧(a=X.env.locals∨X.env.cells.lookup x=some a))→Q () s') (hf:X.fn x=true∨X.env.scope.names.lookup x=some .local:=by first | exact .inl rfl | exact .inr rfl | assumption):wpAny M A (storeName X.env x u) Q E s:=by
  obtain ⟨m,hn,hl⟩:=id I.loc
  have hcls:(X.env.scope.kind == .class || (X.env.scope.kind == .module && X.env.locals != X.env.globals))=false:=by rw [I.ok.kind]; rfl
  have hiσ:i < σ.length:=by rw [I.len]; exact (List.getElem?_eq_some_iff.mp hi).1
  have cne:=I.cne
  have tracked:∀ {a:Addr} {h':Heap},(∃ o,s.heap.get? a=some o∧H a=none)→Heap.SameBut a s.heap h'→HOk X.prog X.w H h':=fun {a h'} ha hs b ob e=>by
    obtain ⟨_,_,hfree⟩:=ha
    refine (I.hok b ob e).stay (fun c w' hc q=>(hs.2 c ?_).trans q) (fun _ q=>q) fun _ _ q=>q
    rintro rfl
    rcases hc with rfl | hc
    · rw [hfree] at e; cases e
    · rw [hfree] at hc; cases hc
  rcases hx with hk | hk
  · refine wpAny_storeName_local hk hn (fun h' hn' hs=>?_) hcls
    obtain ⟨oL,_,_,hoL,_⟩:=id hn
    refine h _ ⟨I.ok,I.os,I.bare,⟨fun b o e n hb hx=>?_,fun b o e n hb hx=>?_,I.base.free,fun b o e hx=>?_,I.base.tups,I.base.frzs,I.base.tbls⟩,⟨_,hn',fun j y v' e1 e2 e3=>?_⟩,fun y c e=>?_,I.free,I.freeC,fun p hp=>?_,tracked ⟨oL,hoL,I.free⟩ hs,by simpa using I.len⟩ ⟨_,hs,.inl rfl⟩
    · exact (hs.2 b (Nat.ne_of_lt (Nat.lt_of_lt_of_le (Heap.lt_size e) I.ok.above))).trans (I.base.keep b o e n hb hx)
    · obtain ⟨sl,e1⟩:=I.base.slot b o e n hb hx
      exact ⟨sl,(hs.2 b (Nat.ne_of_lt (Nat.lt_of_lt_of_le (Heap.lt_size e) I.ok.above))).trans e1⟩
    · obtain ⟨o',e1⟩:=I.base.there b o e hx
      exact ⟨o',(hs.2 b (Nat.ne_of_lt (Nat.lt_of_lt_of_le (Heap.lt_size e) I.ok.above))).trans e1⟩
    · by_cases hj:j=i
      · subst hj
        rw [hi] at e1; cases e1
        rw [List.getElem?_set_self hiσ] at e2
        cases e2
        exact ⟨u,r,.inl ⟨hk,by simp⟩⟩
      · rw [List.getElem?_set_ne (Ne.symm hj)] at e2
        obtain ⟨u',r',q⟩:=hl j y v' e1 e2 e3
        refine ⟨u',r',?_⟩
        rcases q with ⟨k,e⟩ | ⟨k,c,e,z⟩
        · refine .inl ⟨k,?_⟩
          have:y≠x:=fun e=>hj (nodup_ix hN e1 (e ▸ hi))
          simp [this,e]
        · exact .inr ⟨k,c,e,z.sameBut hs (cne y c e)⟩
    · obtain ⟨w',z⟩:=I.cell y c e
      exact ⟨w',z.sameBut hs (cne y c e)⟩
    · obtain ⟨e,n,ne,nf,d⟩:=I.pin p hp
      exact ⟨(hs.2 p.1 ne).trans e,n,ne,nf,d⟩
  · have hfn:X.fn x=true:=by
      rcases hf with z | z
      · exact z
      · rw [z] at hk; cases hk
    obtain ⟨c,hc⟩:=I.ok.has x (.inl hk)
    obtain ⟨w',z⟩:=I.cell x c hc
    refine wpAny_storeName_cell I.ok.kind hk hc z (fun h' hc' hs=>?_)
    obtain ⟨oc,hoc,hocd⟩:=id z
    refine h { s with heap:=h' } ⟨I.ok,I.os,I.bare,⟨fun b o e n hb hx=>?_,fun b o e n hb hx=>?_,I.base.free,fun b o e hx=>?_,I.base.tups,I.base.frzs,I.base.tbls⟩,⟨m,hn.sameBut hs (Ne.symm (cne x c hc)),fun j y v' e1 e2 e3=>?_⟩,fun y c' e=>?_,I.free,I.freeC,fun p hp=>?_,tracked ⟨oc,hoc,I.freeC x c hc⟩ hs,by simpa using I.len⟩ ⟨c,hs,.inr hc⟩
    · exact (hs.2 b (Nat.ne_of_lt (Nat.lt_of_lt_of_le (Heap.lt_size e) (I.ok.cab x c hfn hc)))).trans (I.base.keep b o e n hb hx)
    · obtain ⟨sl,e1⟩:=I.base.slot b o e n hb hx
      exact ⟨sl,(hs.2 b (Nat.ne_of_lt (Nat.lt_of_lt_of_le (Heap.lt_size e) (I.ok.cab x c hfn hc)))).trans e1⟩
    · obtain ⟨o',e1⟩:=I.base.there b o e hx
      exact ⟨o',(hs.2 b (Nat.ne_of_lt (Nat.lt_of_lt_of_le (Heap.lt_size e) (I.ok.cab x c hfn hc)))).trans e1⟩
    · by_cases hj:j=i
      · subst hj
        rw [hi] at e1; cases e1
        rw [List.getElem?_set_self hiσ] at e2
        cases e2
        exact ⟨u,r,.inr ⟨.inl hk,c,hc,hc'⟩⟩
      · rw [List.getElem?_set_ne (Ne.symm hj)] at e2
        obtain ⟨u',r',q⟩:=hl j y v' e1 e2 e3
        refine ⟨u',r',?_⟩
        rcases q with q | ⟨k,c',e,z'⟩
        · exact .inl q
        · refine .inr ⟨k,c',e,z'.sameBut hs ?_⟩
          rintro rfl
          exact hj (nodup_ix hN e1 (I.ok.inj _ _ _ e hc ▸ hi))
    · by_cases hcc:c'=c
      · subst hcc; exact ⟨_,hc'⟩
      · obtain ⟨w2,z2⟩:=I.cell y c' e
        exact ⟨w2,z2.sameBut hs hcc⟩
    · obtain ⟨e,n,ne,nf,d⟩:=I.pin p hp
      refine ⟨(hs.2 p.1 ?_).trans e,n,ne,nf,d⟩
      intro q
      rw [q,hoc] at e
      have q':oc=p.2:=Option.some.inj e
      exact d w' (by rw [← q']; exact hocd)
theorem store_ok {M:Model} {A:Around} {E:Value→Shared→Prop} {i:Nat} {x:Str} {v:V} {u:Value} {Q:Unit→Shared→Prop} (I:Inv X pins σ H s) (hN:X.N.Nodup) (hi:X.N[i]? = some x) (hx:Loc X.env.scope x) (r:RelV v u)
    (h:∀ s',Inv X pins (σ.set i (some v)) H s'→Q () s') (hf:X.fn x=true∨X.env.scope.names.lookup x=some .local:=by first | exact .inl rfl | exact .inr rfl | assumption):wpAny M A (storeName X.env x u) Q E s :=
  store_ok2 I hN hi hx r (fun s' I' _=>h s' I') hf
theorem Inv.call' {s':Shared} {ch:List Addr} (I:Inv X pins σ H s) (ho:s'.os=s.os) (u:Un (frs X.stack) ch H H' s.heap s'.heap) (hok:HOk X.prog X.w H' s'.heap) (hg:AllBare s'.gens)
    (hch:∀ b∈ch,(b∈X.ex∨X.s₀.heap.objs.size≤b)∧b≠X.env.locals∧(∀ x c,X.env.cells.lookup x=some c→c≠b)∧∀ p∈X.pn++pins,p.1≠b):Inv X pins σ H' s':=by
  obtain ⟨h',g',d',t',o'⟩:=s'
  have e:o'=s.os:=ho
  subst e
  exact I.call (g':=g') (t':=t') (d':=d') u hok hg hch
end
abbrev XK:=Value→Option Addr→Hp→Prop
abbrev St:=List (Option V)
abbrev VK:=V→Hp→Prop
abbrev TE:=St→Hp→VK→Prop
abbrev TT:=St→Hp→(Bool→Hp→Prop)→Prop
abbrev TA:=St→Hp→(List V→Hp→Prop)→Prop
structure Ends where
  nx:St→Hp→Prop
  rt:VK
  bk:St→Hp→Prop:=fun _ _=>False
  ct:St→Hp→Prop:=fun _ _=>False
abbrev TS:=Ends→St→Hp→Prop
def EP (X:Cx) (pins:List (Addr×Obj)) (σ:St) (Q:VK) (u:Value) (s':Shared):Prop:=∃ v H',Inv X pins σ H' s'∧RelV v u∧Q v H'
def TP (X:Cx) (pins:List (Addr×Obj)) (σ:St) (Q:Bool→Hp→Prop) (b:Bool) (s':Shared):Prop:=∃ H',Inv X pins σ H' s'∧Q b H'
def AP (X:Cx) (pins:List (Addr×Obj)) (σ:St) (Q:List V→Hp→Prop) (us:List Value) (s':Shared):Prop:=∃ vs H',Inv X pins σ H' s'∧Vals vs us∧Q vs H'
def SP (X:Cx) (pins:List (Addr×Obj)) (D:Ends) (f:Flow) (s':Shared):Prop :=
  match f with
  | .next=>∃ σ' H',Inv X pins σ' H' s'∧D.nx σ' H'
  | .brk=>∃ σ' H',Inv X pins σ' H' s'∧D.bk σ' H'
  | .cont=>∃ σ' H',Inv X pins σ' H' s'∧D.ct σ' H'
  | .ret u=>∃ v σ' H',Inv X pins σ' H' s'∧RelV v u∧D.rt v H'
def PE (X:Cx) (e:Expr) (t:TE):Prop :=
  ∀ (pins:List (Addr×Obj)) (s:Shared) (σ:St) (H:Hp) (Q:VK),Inv X pins σ H s→t σ H Q→wpAny (model X.prog X.w) X.A (eval e X.env) (EP X pins σ Q) X.xe s
def PT (X:Cx) (e:Expr) (t:TT):Prop :=
  ∀ (pins:List (Addr×Obj)) (s:Shared) (σ:St) (H:Hp) (Q:Bool→Hp→Prop),Inv X pins σ H s→t σ H Q→wpAny (model X.prog X.w) X.A (isTrue e X.env (eval e X.env)) (TP X pins σ Q) X.xe s
def PW (X:Cx) (e:Expr) (t:TT):Prop :=
  ∀ (whole:Sem Value) (pins:List (Addr×Obj)) (s:Shared) (σ:St) (H:Hp) (Q:Bool→Hp→Prop),Inv X pins σ H s→t σ H Q→wpAny (model X.prog X.w) X.A (isTrue e X.env whole) (TP X pins σ Q) X.xe s
theorem PW.pt {X:Cx} {e:Expr} {t:TT} (h:PW X e t):PT X e t:=h _
def PA (X:Cx) (es:List Expr) (t:TA):Prop :=
  ∀ (pos:Pos) (pins:List (Addr×Obj)) (s:Shared) (σ:St) (H:Hp) (Q:List V→Hp→Prop),Inv X pins σ H s→t σ H Q→wpAny (model X.prog X.w) X.A (spliced (backTo pos (starEach es X.env))) (AP X pins σ Q) X.xe s
def PS (X:Cx) (st:Stmt) (t:TS):Prop :=
  ∀ (pins:List (Addr×Obj)) (s:Shared) (σ:St) (H:Hp) (D:Ends),Inv X pins σ H s→t D σ H→wpAny (model X.prog X.w) X.A (exec st X.env) (SP X pins D) X.xe s
def PSs (X:Cx) (st:List Stmt) (t:TS):Prop :=
  ∀ (pins:List (Addr×Obj)) (s:Shared) (σ:St) (H:Hp) (D:Ends),Inv X pins σ H s→t D σ H→wpAny (model X.prog X.w) X.A (execs st X.env) (SP X pins D) X.xe s
theorem thn {α:Type} {t:Sem α} {Q Q':α→Shared→Prop} {M:Model} {A:Around} {E:Value→Shared→Prop} {s:Shared} (h:wpAny M A t Q E s) (hQ:∀ a s,Q a s→Q' a s):wpAny M A t Q' E s:=wpAny_mono h hQ fun _ _ x=>x
end L2
namespace L2
open PySem PySem.Spec PyProof.Rows
section
variable {X:Cx}
def tVar (i:Nat):TE:=fun σ H Q=>∃ v,σ[i]? = some (some v)∧Q v H
def tC (v:V):TE:=fun _ H Q=>Q v H
theorem pe_var {i:Nat} {x:Str} {pos:Pos} (hN:X.N[i]? = some x) (hv:Vis X.env.scope x) (hd:(x == ("__debug__" : Str))=false:=by decide) (hcd:(x == ("__classdict__" : Str))=false:=by decide):PE X (.Name x pos) (tVar i):=by
  intro pins s σ H Q I h
  obtain ⟨v,e,h⟩:=h
  obtain ⟨m,hn,hl⟩:=I.loc
  obtain ⟨u,r,l⟩:=hl i x v hN e hv
  have fin:EP X pins σ Q u s:=⟨v,H,I,r,h⟩
  rcases l with ⟨hk,hm⟩ | ⟨hk,c,hc,hcell⟩
  · exact wpAny_Name (wpAny_loadName_local I.ok.kind hk hn hm fin) hd
  · rcases hk with hk | hk
    · exact wpAny_Name (wpAny_loadName_cell I.ok.kind hk hc hcell fin) hd
    · exact wpAny_Name (wpAny_loadName_free I.ok.kind hk hc hcell fin hcd) hd
theorem pe_int {i j pos}:PE X (.Constant (.int i) j pos) (tC (.int i)):=fun _ _ _ H _ I h=>wpAny_Constant_int ⟨.int i,H,I.tok _,⟨_,rfl⟩,h⟩
theorem pe_bl {b j pos}:PE X (.Constant (.bool b) j pos) (tC (.bl b)):=fun _ _ _ H _ I h=>Constant_bool ⟨.bl b,H,I,rfl,h⟩
def Gl (X:Cx) (x:Str):Prop:=X.env.kindOf x=some .globalImplicit
theorem ld_glob {E:Value→Shared→Prop} {pins:List (Addr×Obj)} {s:Shared} {σ:St} {H:Hp} {x:Str} {u:Value} {pos:Pos} {Q:Value→Shared→Prop} (I:Inv X pins σ H s) (hg:Gl X x) (hm:X.mg x=some u) (h:Q u s)
    (hd:(x == ("__debug__" : Str))=false:=by decide):wpAny (model X.prog X.w) X.A (eval (.Name x pos) X.env) Q E s :=
  Calls.Name_function_global I.ok.kind hg (Calls.loadGlobal_global (by rw [I.ok.glob]; exact I.mod.glob.keeps I.bk) hm h) hd
theorem ld_blt {E:Value→Shared→Prop} {pins:List (Addr×Obj)} {s:Shared} {σ:St} {H:Hp} {x:Str} {u:Value} {pos:Pos} {Q:Value→Shared→Prop} (I:Inv X pins σ H s) (hg:Gl X x) (hm:X.mg x=none) (hv:bootBuiltins x=some u) (h:Q u s)
    (hn:x ≠ "__name__" := by decide) (hd:(x == ("__debug__" : Str))=false:=by decide):wpAny (model X.prog X.w) X.A (eval (.Name x pos) X.env) Q E s:=by
  obtain ⟨mb,h1,h2⟩:=I.mod.blt
  exact Calls.Name_function_global I.ok.kind hg (Calls.loadGlobal_builtin (by rw [I.ok.glob]; exact I.mod.glob.keeps I.bk) hm (by rw [I.ok.blt]; exact h1.keeps I.bk) ((h2 x hn).trans hv) h) hd
variable {a b:Expr} {ta tb:TE} {pos:Pos}
def tB (t:TE):TT:=fun σ H Q=>t σ H fun x H1=>∃ c,x = .bl c∧Q c H1
theorem pt_val {e:Expr} {t:TE} (h:PE X e t) (he:∀ whole,isTrue e X.env whole=(do let v ← whole; standAt e.pos; holding [v] (truthy v)):=by intro _; rfl):PT X e (tB t):=by
  intro pins s σ H Q I hw
  refine isTrue_plain (thn (h pins s σ H _ I hw) fun v s1 ⟨x,H1,I1,r1,q1⟩=>?_) (he _)
  obtain ⟨d,rfl,q⟩:=q1
  cases r1
  exact wpAny_truthy_bool ⟨H1,I1,q⟩
variable {tA tB':TT} {rest:List Expr}
def tAnd (t u:TT):TT:=fun σ H Q=>t σ H fun c H1=>if c=true then u σ H1 Q else Q false H1
def tOr (t u:TT):TT:=fun σ H Q=>t σ H fun c H1=>if c=true then Q true H1 else u σ H1 Q
def tNot (t:TT):TT:=fun σ H Q=>t σ H fun c H1=>Q (!c) H1
theorem pw_and1 (ha:PT X a tA):PW X (.BoolOp .And [a] pos) tA:=by
  intro wh pins s σ H Q I h
  refine isTrue_and (thn (ha pins s σ H Q I h) fun c s1 e=>?_)
  cases c with
  | true=>exact isTrue_and_nil e
  | false=>exact e
theorem pw_or1 (ha:PT X a tA):PW X (.BoolOp .Or [a] pos) tA:=by
  intro wh pins s σ H Q I h
  refine isTrue_or (thn (ha pins s σ H Q I h) fun c s1 e=>?_)
  cases c with
  | false=>exact isTrue_or_nil e
  | true=>exact e
theorem pw_and (ha:PT X a tA) (hb:PW X (.BoolOp .And (b :: rest) pos) tB'):PW X (.BoolOp .And (a :: b :: rest) pos) (tAnd tA tB'):=by
  intro wh pins s σ H Q I h
  refine isTrue_and (thn (ha pins s σ H _ I h) fun c s1 ⟨H1,I1,q1⟩=>?_)
  cases c with
  | true=>exact hb wh pins s1 σ H1 Q I1 q1
  | false=>exact ⟨H1,I1,q1⟩
theorem pw_or (ha:PT X a tA) (hb:PW X (.BoolOp .Or (b :: rest) pos) tB'):PW X (.BoolOp .Or (a :: b :: rest) pos) (tOr tA tB'):=by
  intro wh pins s σ H Q I h
  refine isTrue_or (thn (ha pins s σ H _ I h) fun c s1 ⟨H1,I1,q1⟩=>?_)
  cases c with
  | true=>exact ⟨H1,I1,q1⟩
  | false=>exact hb wh pins s1 σ H1 Q I1 q1
theorem pt_not (ha:PT X a tA):PT X (.UnaryOp .Not a pos) (tNot tA):=by
  intro pins s σ H Q I h
  exact isTrue_not (ha pins s σ H (fun c H1=>Q (!c) H1) I h)
def tAndV (ta tb:TE):TE:=fun σ H Q=>ta σ H fun x H1=>∃ c,x = .bl c∧if c=true then tb σ H1 Q else Q (.bl false) H1
def tOrV (ta tb:TE):TE:=fun σ H Q=>ta σ H fun x H1=>∃ c,x = .bl c∧if c=true then Q (.bl true) H1 else tb σ H1 Q
def tNotV (ta:TE):TE:=fun σ H Q=>ta σ H fun x H1=>∃ c,x = .bl c∧Q (.bl (!c)) H1
theorem pe_one {op} {t:TE} (h:PE X a t):PE X (.BoolOp op [a] pos) t:=fun pins s σ H Q I hw=>BoolOp_one (h pins s σ H Q I hw)
theorem pe_or (ha:PE X a ta) (hb:PE X (.BoolOp .Or (b :: rest) pos) tb):PE X (.BoolOp .Or (a :: b :: rest) pos) (tOrV ta tb):=by
  intro pins s σ H Q I h
  refine BoolOp_or (thn (ha pins s σ H _ I h) fun v s1 ⟨x,H1,I1,r1,q1⟩=>?_)
  obtain ⟨c,rfl,q1⟩:=q1
  cases r1
  refine wpAny_truthy_bool ?_
  cases c with
  | false=>exact hb pins s1 σ H1 Q I1 q1
  | true=>exact ⟨.bl true,H1,I1,rfl,q1⟩
theorem pe_not (ha:PE X a ta):PE X (.UnaryOp .Not a pos) (tNotV ta):=by
  intro pins s σ H Q I h
  refine UnaryOp_ (thn (ha pins s σ H _ I h) fun v s1 ⟨x,H1,I1,r1,q1⟩=>?_)
  obtain ⟨c,rfl,q1⟩:=q1
  cases r1
  exact not_of (wpAny_truthy_bool ⟨.bl (!c),H1,I1,rfl,q1⟩)
def tIf (t:TT) (ta tb:TE):TE:=fun σ H Q=>t σ H fun c H1=>if c=true then ta σ H1 Q else tb σ H1 Q
theorem pe_ifExp {c:Expr} (hc:PT X c tA) (ha:PE X a ta) (hb:PE X b tb):PE X (.IfExp c a b pos) (tIf tA ta tb):=by
  intro pins s σ H Q I h
  refine wpAny_IfExp (thn (hc pins s σ H _ I h) fun d s1 ⟨H1,I1,q1⟩=>?_)
  cases d with
  | true=>exact ha pins s1 σ H1 Q I1 q1
  | false=>exact hb pins s1 σ H1 Q I1 q1
end
end L2
namespace L2
open PySem PySem.Spec PyProof.Rows
def SqL (K:PySem.W.Frag) (H:Hp) (a:Addr) (xs:List V):Prop :=
  Rd H a (.lst xs) ∨
    ∃ (o:Obj) (its:Array Value) (n:Nat),K.lookup a=some o∧o.cls = .type "list" ∧ o.dict=none∧o.data = .seq its n∧its.size≤sizeLine∧Vals xs its.toList
def SqT (K:PySem.W.Frag) (H:Hp) (a:Addr) (xs:List V):Prop :=
  Rd H a (.tup xs) ∨
    ∃ (o:Obj) (its:Array Value) (n:Nat),K.lookup a=some o∧o.cls = .type "tuple" ∧ o.data = .seq its n∧its.size≤sizeLine∧Vals xs its.toList
def absV:Value→Option V
  | .none=>some .non
  | .bool b=>some (.bl b)
  | .int i _=>some (.int i)
  | .str x _=>some (.str x)
  | .bytes b _=>some (.byt b)
  | .float b _=>some (.flt b)
  | .ref a=>some (.ref a)
  | .type n=>some (.ty n)
  | _=>none
theorem RelV.abs {x:V} {u:Value} (r:RelV x u):absV u=some x:=by
  cases x with
  | non=>cases r; rfl
  | bl _=>cases r; rfl
  | int _=>obtain ⟨t,rfl⟩:=r; rfl
  | str _=>obtain ⟨t,rfl⟩:=r; rfl
  | byt _=>obtain ⟨t,rfl⟩:=r; rfl
  | flt _=>obtain ⟨t,rfl⟩:=r; rfl
  | ref _=>cases r; rfl
  | ty _=>cases r; rfl
theorem RelV.inj {x y:V} {u:Value} (r:RelV x u) (q:RelV y u):x=y:=Option.some.inj (r.abs.symm.trans q.abs)
theorem Vals.inj:∀ {xs ys:List V} {us:List Value},Vals xs us→Vals ys us→xs=ys
  | _,_,_,.nil,.nil=>rfl
  | _,_,_,.cons r t,.cons r' t'=>by rw [r.inj r',Vals.inj t t']
section
variable {X:Cx} {pins:List (Addr×Obj)} {σ:St} {H:Hp} {s:Shared} {a:Addr} {xs ys:List V}
theorem SqL.of {K:PySem.W.Frag} (h:H a=some (.lst xs)):SqL K H a xs:=.inl (.inl h)
theorem SqT.of {K:PySem.W.Frag} (h:H a=some (.tup xs)):SqT K H a xs:=.inl (.inl h)
theorem Inv.list (I:Inv X pins σ H s) (h:SqL X.K H a xs):∃ its:List Value,Vals xs its∧PlainL s.heap a its.toArray∧xs.length≤sizeLine:=by
  rcases h with h | ⟨o,its,n,hk,hc,hd,hs,hz,r⟩
  · obtain ⟨z,its,n,r,e⟩:=h.ok I.hok
    exact ⟨its,r,⟨_,n,e,rfl,rfl,rfl⟩,z⟩
  · refine ⟨its.toList,r,⟨o,n,I.kIn a o hk,hc,hd,by simpa using hs⟩,?_⟩
    have e:=r.length
    simp only [Array.length_toList] at e
    omega
theorem Inv.tuple (I:Inv X pins σ H s) (h:SqT X.K H a xs):∃ its:List Value,Vals xs its∧IsTup s.heap a its.toArray∧xs.length≤sizeLine:=by
  rcases h with h | ⟨o,its,n,hk,hc,hs,hz,r⟩
  · obtain ⟨z,its,r,p⟩:=h.ok I.hok
    exact ⟨its,r,p,z⟩
  · refine ⟨its.toList,r,⟨o,I.kIn a o hk,hc,n,by simpa using hs⟩,?_⟩
    have e:=r.length
    simp only [Array.length_toList] at e
    omega
theorem Inv.list_inj (I:Inv X pins σ H s) (h:SqL X.K H a xs) (h':SqL X.K H a ys):xs=ys:=by
  obtain ⟨its,r,⟨o,n,e,_,_,d⟩,_⟩:=I.list h
  obtain ⟨its',r',⟨o',n',e',_,_,d'⟩,_⟩:=I.list h'
  rw [e] at e'; cases e'
  rw [d] at d'
  injection d' with d1 _
  have:its=its':=by simpa using congrArg Array.toList d1
  subst this
  exact r.inj r'
end
abbrev Cx.wish (X:Cx) (E:Value→Shared→Prop):Cx:={ X with xe:=E }
abbrev Cx.nox (X:Cx):Cx:=X.wish fun _ _=>False
theorem Cx.Ok.wish {X:Cx} (ok:X.Ok) (E:Value→Shared→Prop):(X.wish E).Ok :=
  ⟨ok.mod,ok.kind,ok.glob,ok.blt,ok.above,ok.inj,ok.has,ok.cab,ok.hd,ok.frames,ok.stk,ok.exf,ok.bs,ok.bsz,ok.noex,ok.exfs,ok.funs,ok.frf⟩
theorem Cx.Ok.unwish {X:Cx} {E:Value→Shared→Prop} (ok:(X.wish E).Ok):X.Ok :=
  ⟨ok.mod,ok.kind,ok.glob,ok.blt,ok.above,ok.inj,ok.has,ok.cab,ok.hd,ok.frames,ok.stk,ok.exf,ok.bs,ok.bsz,ok.noex,ok.exfs,ok.funs,ok.frf⟩
section
variable {X:Cx} {pins:List (Addr×Obj)} {σ:St} {H:Hp} {s:Shared} {E:Value→Shared→Prop}
theorem Inv.wish (I:Inv X pins σ H s) (E:Value→Shared→Prop):Inv (X.wish E) pins σ H s:=⟨I.ok.wish E,I.os,I.bare,I.base,I.loc,I.cell,I.free,I.freeC,I.pin,I.hok,I.len⟩
theorem Inv.unwish (I:Inv (X.wish E) pins σ H s):Inv X pins σ H s:=⟨I.ok.unwish,I.os,I.bare,I.base,I.loc,I.cell,I.free,I.freeC,I.pin,I.hok,I.len⟩
theorem SP.unwish {D:Ends} {f:Flow} {s':Shared} (h:SP (X.wish E) pins D f s'):SP X pins D f s':=by
  cases f with
  | next=>obtain ⟨σ',H',I,q⟩:=h; exact ⟨σ',H',I.unwish,q⟩
  | brk=>obtain ⟨σ',H',I,q⟩:=h; exact ⟨σ',H',I.unwish,q⟩
  | cont=>obtain ⟨σ',H',I,q⟩:=h; exact ⟨σ',H',I.unwish,q⟩
  | ret u=>obtain ⟨v,σ',H',I,r,q⟩:=h; exact ⟨v,σ',H',I.unwish,r,q⟩
theorem PSs.nox {st:List Stmt} {t:TS} (h:PSs X.nox st t):PSs X st t:=fun pins s σ H D I hw =>
  wpAny_mono (h pins s σ H D (I.wish _) hw) (fun _ _ q=>q.unwish) fun _ _ z=>False.elim z
end
section
variable {X:Cx} {st:Stmt} {rest:List Stmt} {t u:TS} {e:Expr} {te:TE} {pos:Pos}
def tNext:TS:=fun D σ H=>D.nx σ H
def tSeq (t u:TS):TS:=fun D σ H=>t { D with nx:=u D } σ H
theorem pss_nil:PSs X [] tNext:=fun _ _ σ H _ I h=>wpAny_execs_nil ⟨σ,H,I,h⟩
theorem pss_cons (h1:PS X st t) (h2:PSs X rest u):PSs X (st :: rest) (tSeq t u):=by
  intro pins s σ H D I h
  refine wpAny_execs_cons (thn (h1 pins s σ H { D with nx:=u D } I h) fun f s1 q=>?_)
  cases f with
  | next =>
    obtain ⟨σ',H',I',q⟩:=q
    exact h2 pins s1 σ' H' D I' q
  | ret v=>exact q
  | brk=>exact q
  | cont=>exact q
theorem pss_one (h1:PS X st t):PSs X [st] t:=by
  intro pins s σ H D I h
  refine wpAny_execs_cons (thn (h1 pins s σ H D I h) fun f s1 q=>?_)
  cases f with
  | next=>exact wpAny_execs_nil q
  | ret v=>exact q
  | brk=>exact q
  | cont=>exact q
def tCont:TS:=fun D σ H=>D.ct σ H
theorem ps_continue:PS X (.Continue pos) tCont:=fun _ _ σ H _ I h=>wpAny_Continue ⟨σ,H,I,h⟩
theorem Inv.quiet {pins:List (Addr×Obj)} {σ:St} {H:Hp} {s:Shared} (I:Inv X pins σ H s):interactive X.env=false:=by simp [interactive,I.ok.kind]
def tDrop (te:TE):TS:=fun D σ H=>te σ H fun _ H1=>D.nx σ H1
theorem ps_expr (he:PE X e te) (hs:swapsWith e none pos.line X.env=pure false:=by rfl):PS X (.Expr e pos) (tDrop te):=by
  intro pins s σ H D I h
  exact wpAny_Expr_any (thn (he pins s σ H _ I h) fun v s1 ⟨x,H1,I1,r1,q1⟩=>⟨σ,H1,I1,q1⟩) I.quiet hs
def tRet (te:TE):TS:=fun D σ H=>te σ H D.rt
theorem ps_ret (he:PE X e te):PS X (.Return (some e) pos) (tRet te):=by
  intro pins s σ H D I h
  exact wpAny_Return_some (thn (he pins s σ H _ I h) fun v s1 ⟨x,H1,I1,r1,q1⟩=>⟨x,σ,H1,I1,r1,q1⟩)
def tRetN:TS:=fun D _ H=>D.rt .non H
def tIfS (c:TT) (t u:TS):TS:=fun D σ H=>c σ H fun b H1=>if b=true then t D σ H1 else u D σ H1
theorem ps_if {c:Expr} {a b:List Stmt} {tc:TT} (hc:PT X c tc) (ha:PSs X a t) (hb:PSs X b u):PS X (.If c a b pos) (tIfS tc t u):=by
  intro pins s σ H D I h
  refine wpAny_If (thn (hc pins s σ H _ I h) fun d s1 ⟨H1,I1,q1⟩=>?_)
  cases d with
  | true=>exact ha pins s1 σ H1 D I1 q1
  | false=>exact hb pins s1 σ H1 D I1 q1
def tNever:TS:=fun _ _ _=>False
theorem ps_never:PS X st tNever:=fun _ _ _ _ _ _ h=>h.elim
end
abbrev TG:=V→St→Hp→(St→Hp→Prop)→Prop
abbrev TGs:=List V→St→Hp→(St→Hp→Prop)→Prop
def PG (X:Cx) (target:Expr) (t:TG):Prop :=
  ∀ (pins:List (Addr×Obj)) (s:Shared) (σ:St) (H:Hp) (v:V) (u:Value) (Q:St→Hp→Prop),Inv X pins σ H s→RelV v u→t v σ H Q →
    wpAny (model X.prog X.w) X.A (assign target X.env u) (fun _ s'=>∃ σ' H',Inv X pins σ' H' s'∧Q σ' H') X.xe s
def PGs (X:Cx) (ts:List Expr) (t:TGs):Prop :=
  ∀ (pins:List (Addr×Obj)) (s:Shared) (σ:St) (H:Hp) (vs:List V) (us:List Value) (Q:St→Hp→Prop),Inv X pins σ H s→Vals vs us→t vs σ H Q →
    wpAny (model X.prog X.w) X.A (assignInOrder ((assignEach ts X.env).map (·.2)) us) (fun _ s'=>∃ σ' H',Inv X pins σ' H' s'∧Q σ' H') X.xe s
abbrev TSet:=V→V→V→Hp→(Hp→Prop)→Prop
def PSet (X:Cx) (t:TSet):Prop :=
  ∀ (pins:List (Addr×Obj)) (s:Shared) (σ:St) (H:Hp) (o i v:V) (ov iv u:Value) (Q:Hp→Prop),Inv X pins σ H s→RelV o ov→RelV i iv→RelV v u→t o i v H Q →
    wpAny (model X.prog X.w) X.A (setItem ov iv u) (fun _ s'=>∃ H',Inv X pins σ H' s'∧Q H') X.xe s
section
variable {X:Cx} {pos:Pos}
def gName (i:Nat):TG:=fun v σ H Q=>Q (σ.set i (some v)) H
theorem pg_name {i:Nat} {x:Str} (hN:X.N.Nodup) (hi:X.N[i]? = some x) (hx:Loc X.env.scope x) (hf:X.fn x=true∨X.env.scope.names.lookup x=some .local:=by first | exact .inl rfl | exact .inr rfl | assumption):PG X (.Name x pos) (gName i):=by
  intro pins s σ H v u Q I r h
  exact wpAny_assign_Name (store_ok I hN hi hx r (fun s' I'=>⟨_,H,I',h⟩) hf)
def gNil:TGs:=fun vs σ H Q=>vs = []∧Q σ H
def gCons (t:TG) (u:TGs):TGs:=fun vs σ H Q=>∃ v r,vs=v :: r∧t v σ H fun σ' H'=>u r σ' H' Q
theorem pgs_nil:PGs X [] gNil:=by
  intro pins s σ H vs us Q I r h
  obtain ⟨e,h⟩:=h
  subst e
  cases r
  exact assignInOrder_nil ⟨σ,H,I,h⟩
theorem pgs_cons {e:Expr} {es:List Expr} {t:TG} {u:TGs} (h1:PG X e t) (h2:PGs X es u)
    (hs:(assignEach (e :: es) X.env).map (·.2)=assign e X.env :: (assignEach es X.env).map (·.2):=by rfl):PGs X (e :: es) (gCons t u):=by
  intro pins s σ H vs us Q I r h
  obtain ⟨v,vr,e1,h⟩:=h
  subst e1
  cases r with
  | cons r rr =>
    rw [hs]
    refine assignInOrder_cons (thn (h1 pins s σ H _ _ _ I r h) fun _ s1 ⟨σ1,H1,I1,q1⟩=>?_)
    exact h2 pins s1 σ1 H1 _ _ Q I1 rr q1
def gTup (K:PySem.W.Frag) (n:Nat) (t:TGs):TG:=fun v σ H Q=>∃ a xs,v = .ref a∧SqT K H a xs∧xs.length=n∧t xs σ H Q
theorem pg_tup {es:List Expr} {k:Nat} {t:TGs} {n:Nat} (hc:X.calm=true) (h:PGs X es t)
    (hn:(assignEach es X.env).length=n:=by rfl) (hst:(assignEach es X.env).findIdx? (·.1)=none:=by rfl):PG X (.Tuple es k pos) (gTup X.K n t):=by
  intro pins s σ H v u Q I r hw
  obtain ⟨a,xs,e1,hq,hl,hw⟩:=hw
  subst e1
  cases r
  obtain ⟨its,rv,ht,hz⟩:=I.tuple hq
  refine assign_Tuple_tuple (I.ok.hd hc) ht (by simp [hn,← hl,rv.length]) hst fun h' hx=>?_
  have I1:Inv X pins σ H { s with heap:=h' }:=I.kept (t':=s.toks) fun b o e=>hx b o (Nat.ne_of_lt (Heap.lt_size e)) e
  exact h pins _ σ H xs _ Q I1 (by simpa using rv) hw
def gSub (to ti:TE) (t:TSet):TG:=fun v σ H Q=>to σ H fun o H1=>ti σ H1 fun i H2=>t o i v H2 fun H3=>Q σ H3
theorem pg_sub {o i:Expr} {to ti:TE} {t:TSet} (ho:PE X o to) (hi:PE X i ti) (hs:PSet X t)
    (ha:∀ v,assign (.Subscript o i pos) X.env v=(do
      let ov ← holding [v] (eval o X.env)
      let iv ← holding [v,ov] (eval i X.env)
      standAt pos
      holding [v,ov,iv] (setItem ov iv v)
      release [v,ov,iv] []):=by intro _; rfl):PG X (.Subscript o i pos) (gSub to ti t):=by
  intro pins s σ H v u Q I r h
  rw [ha]
  refine wpAny_bind (wpAny_holding (thn (ho pins s σ H _ I h) fun ov s1 ⟨x,H1,I1,r1,q1⟩=>?_))
  refine wpAny_bind (wpAny_holding (thn (hi pins s1 σ H1 _ I1 q1) fun iv s2 ⟨y,H2,I2,r2,q2⟩=>?_))
  refine wpAny_bind (wpAny_standAt (wpAny_bind (wpAny_holding (thn (hs pins s2 σ H2 x y v ov iv u _ I2 r1 r2 r q2) fun _ s3 ⟨H3,I3,q3⟩=>?_))))
  exact wpAny_release ⟨σ,H3,I3,q3⟩
def tAsg (te:TE) (g:TG):TS:=fun D σ H=>te σ H fun x H1=>g x σ H1 D.nx
theorem ps_asg {tg e:Expr} {te:TE} {g:TG} (he:PE X e te) (hg:PG X tg g) (hs:swapsWithSole [tg] e pos.line X.env=pure false:=by rfl) (hw:swappedStores [tg] e X.env=pure none:=by rfl)
    (h1:(assignEach [tg] X.env).map (·.2) = [assign tg X.env]:=by rfl):PS X (.Assign [tg] e pos) (tAsg te g):=by
  intro pins s σ H D I h
  refine wpAny_Assign_stores (thn (he pins s σ H _ I h) fun v s1 ⟨x,H1,I1,r1,q1⟩=>?_) hs hw
  rw [h1]
  exact thn (hg pins s1 σ H1 x v _ I1 r1 q1) fun _ s2 q=>q
theorem ps_set {i:Nat} {x:Str} {e:Expr} {te:TE} {pos':Pos} (hN:X.N.Nodup) (hi:X.N[i]? = some x) (hx:Loc X.env.scope x) (he:PE X e te) (hs:swapsWith e (some (.Name x pos')) pos.line X.env=pure false:=by rfl) (hf:X.fn x=true∨X.env.scope.names.lookup x=some .local:=by first | exact .inl rfl | exact .inr rfl | assumption) :
    PS X (.Assign [.Name x pos'] e pos) (tAsg te (gName i)):=by
  intro pins s σ H D I h
  refine wpAny_Assign_Name (thn (he pins s σ H _ I h) fun v s1 ⟨y,H1,I1,r1,q1⟩=>?_) hs
  exact store_ok I1 hN hi hx r1 (fun s2 I2=>⟨_,H1,I2,q1⟩) hf
def tPar (i j:Nat) (ta:TA):TS:=fun D σ H=>ta σ H fun vs H1=>∃ v w,vs = [v,w]∧D.nx ((σ.set i (some v)).set j (some w)) H1
end
section
variable {X:Cx} {pos:Pos}
def tWhile (c:TT) (tb:TS):TS:=fun D σ H=>∃ W:Nat→St→Hp→Prop,(∃ m,W m σ H)∧∀ m σ H,W m σ H →
  c σ H fun b H1=>if b=true then ∃ N:St→Hp→Prop,(∀ σ' H',N σ' H'→∃ m',m' < m∧W m' σ' H')∧tb { D with nx:=N,ct:=N,bk:=D.nx } σ H1 else D.nx σ H1
theorem ps_while {c:Expr} {body:List Stmt} {tc:TT} {tb:TS} (hp:PassesOwn (model X.prog X.w) X.A X.env X.xe) (hc:PT X c tc) (hb:PSs X body tb):PS X (.While c body [] pos) (tWhile tc tb):=by
  intro pins s σ H D I h
  obtain ⟨W,⟨m0,w0⟩,turn⟩:=h
  refine wpAny_While (codeAny_whileLoop (fun n s'=>∃ σ' H',Inv X pins σ' H' s'∧W n σ' H') ?_ m0 ⟨σ,H,I,w0⟩)
  rintro n s1 ⟨σ1,H1,I1,w1⟩
  refine wpAny_passesOwn hp (thn (hc pins s1 σ1 H1 _ I1 (turn n σ1 H1 w1)) fun b s2 ⟨H2,I2,q2⟩=>?_)
  cases b with
  | true =>
    obtain ⟨N,hN,q2⟩:=q2
    rw [if_pos rfl]
    refine wpAny_passesOwn hp (thn (hb pins s2 σ1 H2 _ I2 q2) fun f s3 q3=>?_)
    cases f with
    | next =>
      obtain ⟨σ3,H3,I3,n3⟩:=q3
      obtain ⟨m',hm,w3⟩:=hN σ3 H3 n3
      exact ⟨m',hm,σ3,H3,I3,w3⟩
    | cont =>
      obtain ⟨σ3,H3,I3,n3⟩:=q3
      obtain ⟨m',hm,w3⟩:=hN σ3 H3 n3
      exact ⟨m',hm,σ3,H3,I3,w3⟩
    | brk=>exact q3
    | ret v=>exact q3
  | false =>
    rw [if_neg Bool.false_ne_true]
    exact wpAny_execs_nil ⟨σ1,H2,I2,q2⟩
end
structure It where
  go:Nat→Hp→Prop
  yld:Nat→Hp→V→Hp→Prop
  stop:Nat→Hp→Prop
def FpOk (X:Cx) (pins:List (Addr×Obj)) (H:Hp) (b:Addr):Prop :=
  H b=none∧b≠X.env.locals∧b ∉ X.fs∧(b∈X.ex∨X.s₀.heap.objs.size≤b)∧(∀ x c,X.env.cells.lookup x=some c→c≠b)∧∀ p∈X.pn++pins,p.1≠b
theorem Inv.fpOk {X:Cx} {pins:List (Addr×Obj)} {σ:St} {H H':Hp} {s:Shared} {b:Addr} (I:Inv X pins σ H s) (hb:s.heap.objs.size≤b) (hn:H' b=none):FpOk X pins H' b:=by
  refine ⟨hn,Nat.ne_of_gt (Nat.lt_of_lt_of_le I.lt hb),I.nofs hb,.inr (Nat.le_trans I.sz hb),fun x c e z=>?_,fun p hp z=>?_⟩
  · obtain ⟨v,q⟩:=I.cell x c e
    exact absurd (Nat.lt_of_lt_of_le q.lt (by rw [z]; exact hb)) (Nat.lt_irrefl _)
  · exact absurd (Nat.lt_of_lt_of_le (Heap.lt_size (I.pin p hp).1) (by rw [z]; exact hb)) (Nat.lt_irrefl _)
structure Turn (P:Program) (w:World) (K:PySem.W.Frag) (tg:Expr) (J:It) (fp:List Addr) (it:Addr) (tn:Nat→Heap→Prop):Prop where
  mem:it∈fp
  obj:∀ i h,tn i h→∀ b∈fp,∃ o,h.get? b=some o∧∀ v,o.data≠.cell v
  keep:∀ i h h',tn i h→(∀ b∈fp,∀ o,h.get? b=some o→h'.get? b=some o)→tn i h'
  item:∀ (X:Cx),X.prog=P→X.w=w→X.K=K→X.calm=true→∀ (i:Nat) (pins:List (Addr×Obj)) (s:Shared) (σ:St) (H:Hp) (E:Value→Shared→Prop),Inv X pins σ H s→(∀ b∈fp,FpOk X pins H b)→tn i s.heap→J.go i H →
    wpAny (model P w) X.A (pyNext (.ref it)) (fun r s1=>∃ u,r=some u ∧
      wpAny (model P w) X.A (letOwnedTupleGo tg (.ref it) u) (fun _ s2=>∃ x H',Inv X pins σ H' s2∧RelV x u∧J.yld i H x H'∧tn (i+1) s2.heap∧∀ b∈fp,H' b=none) E s1) E s
  done:∀ (X:Cx),X.prog=P→X.w=w→X.K=K→X.calm=true→∀ (i:Nat) (pins:List (Addr×Obj)) (s:Shared) (σ:St) (H:Hp) (E:Value→Shared→Prop),Inv X pins σ H s→(∀ b∈fp,FpOk X pins H b)→tn i s.heap→J.stop i H →
    wpAny (model P w) X.A (pyNext (.ref it)) (fun r s1=>r=none∧Inv X pins σ H s1) E s
  self:∀ (A:Around) (i:Nat) (s:Shared) (Q:Value→Shared→Prop) (E:Value→Shared→Prop),tn i s.heap→Q (.ref it) s→wpAny (model P w) A (pyIter (.ref it)) Q E s
abbrev TI:=St→Hp→(It→Hp→Prop)→Prop
def PIE (X:Cx) (pins:List (Addr×Obj)) (σ:St) (tg:Expr) (R:It→Hp→Prop) (itv:Value) (s2:Shared):Prop :=
  ∃ (it:Addr) (fp:List Addr) (tn:Nat→Heap→Prop) (J:It) (H':Hp),itv = .ref it∧Inv X pins σ H' s2∧Turn X.prog X.w X.K tg J fp it tn∧tn 0 s2.heap∧(∀ b∈fp,FpOk X pins H' b)∧R J H'
def PI (X:Cx) (tg iter:Expr) (wi:TI):Prop :=
  ∀ (pins:List (Addr×Obj)) (s:Shared) (σ:St) (H:Hp) (R:It→Hp→Prop),Inv X pins σ H s→wi σ H R →
    wpAny (model X.prog X.w) X.A (eval iter X.env) (fun v s1=>wpAny (model X.prog X.w) X.A (pyIter v) (PIE X pins σ tg R) X.xe s1) X.xe s
theorem go_of {M:Model} {A:Around} {E:Value→Shared→Prop} {s:Shared} {tg:Expr} {it:Addr} {u:Value} {o:Obj} {n:String} {vs:Array Value} {Q:Unit→Shared→Prop} (ho:s.heap.get? it=some o) (hc:o.cls = .type n) (hd:o.data = .fields vs)
    (hn:["enumerate", "zip", "dict_itemiterator", "dict_reverseitemiterator", "odict_iterator", "itertools.zip_longest", "itertools.pairwise"].contains n=false) (hQ:Q () s):wpAny M A (letOwnedTupleGo tg (.ref it) u) Q E s:=by
  unfold letOwnedTupleGo
  cases tg <;> first
    | exact wpAny_pure hQ
    | (cases u <;> first
        | exact wpAny_pure hQ
        | (refine wpAny_bind (wpAny_load ho ?_)
           rw [hc,hd]
           show wpAny M A (if (["enumerate", "zip", "dict_itemiterator", "dict_reverseitemiterator", "odict_iterator", "itertools.zip_longest", "itertools.pairwise"].contains n && vs[0]? == some (rawInt _))=true then _ else _) Q E s
           rw [if_neg (by intro h; rw [hn,Bool.false_and] at h; cases h)]
           exact wpAny_pure hQ))
def Itl (K:PySem.W.Frag) (a:Addr):It :=
  ⟨fun i H=>∃ xs x,SqL K H a xs∧xs[i]? = some x,fun i H x H'=>H'=H∧∀ xs,SqL K H a xs→xs[i]? = some x,fun i H=>∃ xs,SqL K H a xs∧xs.length≤i⟩
def Itt (K:PySem.W.Frag) (a:Addr):It :=
  ⟨fun i H=>∃ xs x,SqT K H a xs∧xs[i]? = some x,fun i H x H'=>H'=H∧∀ xs,SqT K H a xs→xs[i]? = some x,fun i H=>∃ xs,SqT K H a xs∧xs.length≤i⟩
def Itr (lo:Int) (n:Nat):It:=⟨fun i _=>i<n,fun i H x H'=>H'=H∧x = .int (lo+i),fun i _=>n≤i⟩
theorem turn_list {P:Program} {w:World} {K:PySem.W.Frag} {tg:Expr} (a it:Addr):Turn P w K tg (Itl K a) [it] it (fun i h=>h.IsListIter it a i) where
  mem:=by simp
  obj:=fun i h st b hb=>by
    have e:b=it:=by simpa using hb
    subst e
    obtain ⟨o,e,c,d⟩:=st
    exact ⟨o,e,fun v z=>by rw [d] at z; cases z⟩
  keep:=fun i h h' st k=>st.at fun o e=>k it (by simp) o e
  item:=by
    intro X hP hw hK hc i pins s σ H E I hf st hg
    subst hP hw hK
    obtain ⟨xs,x,hq,hx⟩:=hg
    obtain ⟨its,rv,p,hz⟩:=I.list hq
    obtain ⟨u,hu,ru⟩:=rv.get hx
    obtain ⟨f0,f1,f2,f3,f4,f5⟩:=hf it (by simp)
    refine wpAny_pyNext_list_item st p.isList (x:=u) (by simpa using hu) fun h' st' sb=>?_
    have I1:Inv X pins σ H { s with heap:=h' }:=I.turned (t':=s.toks) (fun b o hb e=>(sb.2 b hb).trans e) f0 f1 f3 f4 f5
    obtain ⟨o,e,c,d⟩:=id st'
    exact ⟨u,rfl,go_of (s:={ s with heap:=h' }) e c d (by decide) ⟨x,H,I1,ru,⟨rfl,fun ys hy=>by rw [I.list_inj hy hq]; exact hx⟩,st',fun b hb=>(hf b hb).1⟩⟩
  done:=by
    intro X hP hw hK hc i pins s σ H E I hf st hg
    subst hP hw hK
    obtain ⟨xs,hq,hx⟩:=hg
    obtain ⟨its,rv,p,hz⟩:=I.list hq
    obtain ⟨f0,f1,f2,f3,f4,f5⟩:=hf it (by simp)
    have hl:=rv.length
    exact wpAny_pyNext_list_end (I.ok.hd hc) st p.isList (by simp; omega) fun h' eb=>⟨rfl,I.turned (t':=s.toks) (fun b o hb e=>eb b o hb e) f0 f1 f3 f4 f5⟩
  self:=fun _ _ _ _ _ st h=>wpAny_pyIter_listiter st h
theorem turn_range {P:Program} {w:World} {K:PySem.W.Frag} {tg:Expr} (it:Addr) (lo:Int) (n:Nat):Turn P w K tg (Itr lo n) [it] it (fun i h=>IsRangeIter h it (lo+(i:Nat)*1) ((n:Int)-(i:Nat)) 1) where
  mem:=by simp
  obj:=fun i h st b hb=>by
    have e:b=it:=by simpa using hb
    subst e
    exact ⟨_,st,fun v z=>by
      have z':Data.fields _=Data.cell v:=z
      cases z'⟩
  keep:=fun i h h' st k=>k it (by simp) _ st
  item:=by
    intro X hP hw hK hc i pins s σ H E I hf st hg
    subst hP hw hK
    obtain ⟨f0,f1,f2,f3,f4,f5⟩:=hf it (by simp)
    have W:=Walks.range (prog:=X.prog) (w:=X.w) (I.ok.hd hc) it lo 1 n
    refine W.item i s _ _ hg st fun v h' tk hv st' kk=>?_
    obtain ⟨t,rfl⟩:=hv
    have I1:Inv X pins σ H { s with heap:=h',toks:=tk }:=I.turned (fun b o hb e=>kk b o (by simpa using hb) e) f0 f1 f3 f4 f5
    refine ⟨_,rfl,go_of (s:={ s with heap:=h',toks:=tk }) (n := "range_iterator") st' rfl rfl (by decide) ⟨.int (lo+i),H,I1,⟨t,?_⟩,⟨rfl,rfl⟩,st',fun b hb=>(hf b hb).1⟩⟩
    rw [Int.mul_one]
  done:=by
    intro X hP hw hK hc i pins s σ H E I hf st hg
    subst hP hw hK
    obtain ⟨f0,f1,f2,f3,f4,f5⟩:=hf it (by simp)
    exact wpAny_pyNext_range_end (I.ok.hd hc) st (by have:n≤i:=hg; omega) fun h' eb=>⟨rfl,I.turned (t':=s.toks) (fun b o hb e=>eb b o hb e) f0 f1 f3 f4 f5⟩
  self:=fun _ _ _ _ _ st h=>wpAny_pyIter_rangeiter st h
end L2
namespace L2
open PySem PySem.Spec PyProof.Rows
section
variable {X:Cx} {tg:Expr}
def iList (K:PySem.W.Frag) (tl:TE):TI:=fun σ H R=>tl σ H fun x H1=>∃ a,x = .ref a∧(∃ xs,SqL K H1 a xs)∧R (Itl K a) H1
def iTup (K:PySem.W.Frag) (tl:TE):TI:=fun σ H R=>tl σ H fun x H1=>∃ a,x = .ref a∧(∃ xs,SqT K H1 a xs)∧R (Itt K a) H1
theorem pi_list {l:Expr} {tl:TE} (hl:PE X l tl):PI X tg l (iList X.K tl):=by
  intro pins s σ H R I h
  refine thn (hl pins s σ H _ I h) fun v s1 ⟨x,H1,I1,r1,q1⟩=>?_
  obtain ⟨a,e,⟨xs,hq⟩,q⟩:=q1
  subst e
  cases r1
  obtain ⟨its,rv,p,hz⟩:=I1.list hq
  refine wpAny_pyIter_list p.isList ?_
  refine ⟨s1.heap.objs.size,[s1.heap.objs.size],_,_,H1,rfl,I1.kept (t':=s1.toks) fun b o e=>Heap.get?_push_of_some _ e,turn_list a _,⟨_,Heap.get?_push_size _ rfl,rfl,rfl⟩,fun b hb=>?_,q⟩
  have e:b=s1.heap.objs.size:=by simpa using hb
  subst e
  exact I1.fpOk (Nat.le_refl _) (I1.hok.fresh (Nat.le_refl _))
theorem range_it {pins:List (Addr×Obj)} {σ:St} {H:Hp} {s:Shared} {R:It→Hp→Prop} {E:Value→Shared→Prop} {lo hi:Int} {t u v:Tok} {tk:Nat} (I:Inv X pins σ H s) (h1:-(2 ^ 62)≤lo) (h2:lo<2 ^ 62) (h3:-(2 ^ 62)≤hi) (h4:hi<2 ^ 62)
    (q:R (Itr lo (hi-lo).toNat) H):wpAny (model X.prog X.w) X.A (pyIter (.ref s.heap.objs.size)) (PIE X pins σ tg R) E { s with heap:=s.heap.push { cls:=.type "range", data:=.fields #[.int lo t,.int hi u,.int 1 v] },toks:=tk }:=by
  refine wpAny_pyIter_range (IsRange.new ..) (small_one h1 h2 h3 h4) ?_
  have I1:Inv X pins σ H { s with heap:=s.heap.push { cls:=.type "range", data:=.fields #[.int lo t,.int hi u,.int 1 v] },toks:=tk }:=I.kept fun b o e=>Heap.get?_push_of_some _ e
  refine ⟨(s.heap.push { cls:=.type "range", data:=.fields #[.int lo t,.int hi u,.int 1 v] }).objs.size,[(s.heap.push { cls:=.type "range", data:=.fields #[.int lo t,.int hi u,.int 1 v] }).objs.size],_,_,H,rfl,
    I1.kept (t':=tk) fun b o e=>Heap.get?_push_of_some _ e,turn_range _ lo (hi-lo).toNat,?_,fun b hb=>?_,q⟩
  · have e1:lo+((0:Nat):Int)*1=lo:=by simp
    have e2:(((hi-lo).toNat:Nat):Int)-((0:Nat):Int)=Builtin.Range.rangeSize lo hi 1:=by rw [rangeSize_one]; split <;> omega
    show IsRangeIter _ _ (lo+((0:Nat):Int)*1) ((((hi-lo).toNat:Nat):Int)-((0:Nat):Int)) 1
    rw [e1,e2]
    exact Heap.get?_push_size _ rfl
  · have e:b=(s.heap.push { cls:=.type "range", data:=.fields #[.int lo t,.int hi u,.int 1 v] }).objs.size:=by simpa using hb
    subst e
    exact I1.fpOk (Nat.le_refl _) (I1.hok.fresh (Nat.le_refl _))
def iRng1 (ta:TA):TI:=fun σ H R=>ta σ H fun vs H1=>∃ j:Int,vs = [.int j]∧-(2 ^ 62)≤j∧j<2 ^ 62∧R (Itr 0 j.toNat) H1
def iRng2 (ta:TA):TI:=fun σ H R=>ta σ H fun vs H1=>∃ i j:Int,vs = [.int i,.int j]∧(-(2 ^ 62)≤i∧i<2 ^ 62∧-(2 ^ 62)≤j∧j<2 ^ 62)∧R (Itr i (j-i).toNat) H1
theorem pi_range1 {a:Expr} {ta:TA} {p pos:Pos} (hg:Gl X "range") (hm:X.mg "range" = none) (ha:PA X [a] ta) (hs:starEach [a] X.env = [(false,eval a X.env)]:=by rfl):PI X tg (.Call (.Name "range" p) [a] [] pos) (iRng1 ta):=by
  intro pins s σ H R I h
  refine Call_ (ld_blt I hg hm boot_range (PyProof.Rows.callWith_type1 (thn (ha pos pins s σ H _ I h) fun us s1 ⟨vs,H1,I1,r1,q1⟩=>?_) hs rfl))
  obtain ⟨j,e,q1,q2,q⟩:=q1
  subst e
  cases r1 with
  | cons r rr =>
    cases rr
    obtain ⟨t,rfl⟩:=r
    exact call_range_1 (range_it I1 (by omega) (by omega) q1 q2 (by simpa using q))
def tFor (wi:TI) (g:TG) (tb:TS):TS:=fun D σ H=>wi σ H fun J H1=>∃ W:Nat→Nat→St→Hp→Prop,(∃ m,W 0 m σ H1)∧∀ i m σ H,W i m σ H →
  (J.stop i H∧D.nx σ H)∨(J.go i H∧∃ N:St→Hp→Prop,(∀ σ' H',N σ' H'→∃ m',m' < m∧W (i+1) m' σ' H')∧∀ x H',J.yld i H x H'→g x σ H' fun σ2 H2=>tb { D with nx:=N,ct:=N,bk:=D.nx } σ2 H2)
def pinsAt (fp:List Addr) (h:Heap):List (Addr×Obj):=fp.filterMap fun b=>(h.get? b).map fun o=>(b,o)
theorem mem_pinsAt {fp:List Addr} {h:Heap} {b:Addr} {o:Obj} (hb:b∈fp) (e:h.get? b=some o):(b,o)∈pinsAt fp h:=List.mem_filterMap.mpr ⟨b,hb,by rw [e]; rfl⟩
theorem of_pinsAt {fp:List Addr} {h:Heap} {p:Addr×Obj} (hp:p∈pinsAt fp h):p.1∈fp∧h.get? p.1=some p.2:=by
  obtain ⟨b,hb,e⟩:=List.mem_filterMap.mp hp
  cases q:h.get? b with
  | none=>rw [q] at e; cases e
  | some o =>
    rw [q] at e
    have e':(b,o)=p:=Option.some.inj e
    subst e'
    exact ⟨hb,q⟩
theorem Inv.pinned {pins:List (Addr×Obj)} {σ:St} {H:Hp} {s:Shared} {fp:List Addr} (I:Inv X pins σ H s) (hf:∀ b∈fp,FpOk X pins H b) (ho:∀ b∈fp,∃ o,s.heap.get? b=some o∧∀ v,o.data≠.cell v):Inv X (pins++pinsAt fp s.heap) σ H s :=
  I.pins_of fun p hp=>(List.mem_append.mp hp).elim (fun z=>I.pin p (List.mem_append_right _ z)) fun z=>by
    obtain ⟨hb,e⟩:=of_pinsAt z
    obtain ⟨f0,f1,f2,_⟩:=hf p.1 hb
    obtain ⟨o,e',d⟩:=ho p.1 hb
    rw [e] at e'; cases e'
    exact ⟨e,f0,f1,f2,d⟩
theorem Inv.unpinned {pins pl:List (Addr×Obj)} {σ:St} {H:Hp} {s:Shared} (I:Inv X (pins++pl) σ H s):Inv X pins σ H s:=I.pins_of fun p hp=>I.pin p (List.mem_append_right _ (List.mem_append_left _ hp))
theorem ps_for {iter:Expr} {body:List Stmt} {wi:TI} {g:TG} {tb:TS} {pos:Pos} (hp:PassesOwn (model X.prog X.w) X.A X.env X.xe) (hc:X.calm=true) (hi:PI X tg iter wi) (hg:PG X tg g) (hb:PSs X body tb)
    (hs:∀ x,foldedSetIterable iter X.env x=pure x:=by intro _; rfl):PS X (.For tg iter body [] pos) (tFor wi g tb):=by
  intro pins s σ H D I h
  refine wpAny_For (thn (hi pins s σ H _ I h) fun v s1 h1=>thn h1 fun itv s2 h2=>?_) hs
  obtain ⟨it,fp,tn,J,H2,e,I2,T,st2,f2,W,⟨m0,w0⟩,turn⟩:=h2
  subst e
  have stat:∀ {H':Hp},(∀ b∈fp,H' b=none)→∀ b∈fp,FpOk X pins H' b:=fun hn b hb=>⟨hn b hb,(f2 b hb).2⟩
  refine codeAny_forLoop_any (fun n s'=>∃ i σ' H',Inv X pins σ' H' s'∧tn i s'.heap∧(∀ b∈fp,H' b=none)∧W i n σ' H') ?_ m0 ⟨0,σ,H2,I2,st2,fun b hb=>(f2 b hb).1,w0⟩
  rintro n s3 ⟨i,σ3,H3,I3,st3,fr3,w3⟩
  rcases turn i n σ3 H3 w3 with ⟨stop,qn⟩ | ⟨go,N,hN,step⟩
  · refine wpAny_passesOwn hp (thn (T.done X rfl rfl rfl hc i pins s3 σ3 H3 X.xe I3 (stat fr3) st3 stop) fun r s4 ⟨hr,I4⟩=>?_)
    subst hr
    exact wpAny_execs_nil ⟨σ3,H3,I4,qn⟩
  · refine wpAny_passesOwn hp (thn (T.item X rfl rfl rfl hc i pins s3 σ3 H3 X.xe I3 (stat fr3) st3 go) fun r s4 ⟨u,hr,h4⟩=>?_)
    subst hr
    refine wpAny_passesOwn hp (thn h4 fun _ s5 ⟨x,H5,I5,r5,y5,st5,fr5⟩=>?_)
    have I5':=I5.pinned (stat fr5) (T.obj _ _ st5)
    refine wpAny_passesOwn hp (thn (hg _ s5 σ3 H5 x u _ I5' r5 (step x H5 y5)) fun _ s6 ⟨σ6,H6,I6,q6⟩=>?_)
    refine wpAny_passesOwn hp (thn (hb _ s6 σ6 H6 _ I6 q6) fun f s7 q7=>?_)
    have again:∀ {σ7:St} {H7:Hp},Inv X (pins++pinsAt fp s5.heap) σ7 H7 s7→N σ7 H7→∃ m,m<n∧∃ i σ' H',Inv X pins σ' H' s7∧tn i s7.heap∧(∀ b∈fp,H' b=none)∧W i m σ' H':=fun {σ7 H7} I7 n7=>by
      obtain ⟨m',hm,w7⟩:=hN σ7 H7 n7
      refine ⟨m',hm,i+1,σ7,H7,I7.unpinned,T.keep _ _ _ st5 fun b hb o e=>(I7.pin (b,o) (List.mem_append_right _ (List.mem_append_right _ (mem_pinsAt hb e)))).1,fun b hb=>?_,w7⟩
      obtain ⟨o,e,d⟩:=T.obj _ _ st5 b hb
      exact (I7.pin (b,o) (List.mem_append_right _ (List.mem_append_right _ (mem_pinsAt hb e)))).2.1
    cases f with
    | next=>obtain ⟨σ7,H7,I7,n7⟩:=q7; exact again I7 n7
    | cont=>obtain ⟨σ7,H7,I7,n7⟩:=q7; exact again I7 n7
    | brk=>obtain ⟨σ7,H7,I7,q7⟩:=q7; exact ⟨σ7,H7,I7.unpinned,q7⟩
    | ret v=>obtain ⟨x7,σ7,H7,I7,r7,q7⟩:=q7; exact ⟨x7,σ7,H7,I7.unpinned,r7,q7⟩
end
theorem for_list {K:PySem.W.Frag} {a:Addr} {xs:List V} {g:TG} {tb:TS} {D:Ends} {σ:St} {H:Hp} (Pv:Nat→St→Hp→Prop) (h0:Pv 0 σ H) (hl:∀ i σ H,i≤xs.length→Pv i σ H→SqL K H a xs)
    (hs:∀ i x σ H,xs[i]? = some x→Pv i σ H→g x σ H fun σ2 H2=>tb { D with nx:=Pv (i+1),ct:=Pv (i+1),bk:=D.nx } σ2 H2) (hd:∀ σ H,Pv xs.length σ H→D.nx σ H) :
    ∃ W:Nat→Nat→St→Hp→Prop,(∃ m,W 0 m σ H)∧∀ i m σ H,W i m σ H →
      ((Itl K a).stop i H∧D.nx σ H)∨((Itl K a).go i H∧∃ N:St→Hp→Prop,(∀ σ' H',N σ' H'→∃ m',m' < m∧W (i+1) m' σ' H')∧∀ x H',(Itl K a).yld i H x H'→g x σ H' fun σ2 H2=>tb { D with nx:=N,ct:=N,bk:=D.nx } σ2 H2):=by
  refine ⟨fun i m σ H=>m=xs.length-i∧i≤xs.length∧Pv i σ H,⟨xs.length,by simp,Nat.zero_le _,h0⟩,?_⟩
  rintro i m σ H ⟨rfl,hi,p⟩
  have q:=hl i σ H hi p
  by_cases hlt:i<xs.length
  · refine .inr ⟨⟨xs,xs[i],q,by simp [hlt]⟩,Pv (i+1),fun σ' H' p'=>⟨xs.length-(i+1),by omega,rfl,hlt,p'⟩,fun x H' y=>?_⟩
    obtain ⟨e,y⟩:=y
    subst e
    exact hs i x σ _ (y xs q) p
  · have e:i=xs.length:=by omega
    subst e
    exact .inl ⟨⟨xs,q,Nat.le_refl _⟩,hd σ H p⟩
theorem for_range {lo:Int} {n:Nat} {g:TG} {tb:TS} {D:Ends} {σ:St} {H:Hp} (Pv:Nat→St→Hp→Prop) (h0:Pv 0 σ H)
    (hs:∀ i σ H,i<n→Pv i σ H→g (.int (lo+i)) σ H fun σ2 H2=>tb { D with nx:=Pv (i+1),ct:=Pv (i+1),bk:=D.nx } σ2 H2) (hd:∀ σ H,Pv n σ H→D.nx σ H) :
    ∃ W:Nat→Nat→St→Hp→Prop,(∃ m,W 0 m σ H)∧∀ i m σ H,W i m σ H →
      ((Itr lo n).stop i H∧D.nx σ H)∨((Itr lo n).go i H∧∃ N:St→Hp→Prop,(∀ σ' H',N σ' H'→∃ m',m' < m∧W (i+1) m' σ' H')∧∀ x H',(Itr lo n).yld i H x H'→g x σ H' fun σ2 H2=>tb { D with nx:=N,ct:=N,bk:=D.nx } σ2 H2):=by
  refine ⟨fun i m σ H=>m=n-i∧i≤n∧Pv i σ H,⟨n,by simp,Nat.zero_le _,h0⟩,?_⟩
  rintro i m σ H ⟨rfl,hi,p⟩
  by_cases hlt:i<n
  · refine .inr ⟨hlt,Pv (i+1),fun σ' H' p'=>⟨n-(i+1),by omega,rfl,hlt,p'⟩,fun x H' y=>?_⟩
    obtain ⟨e,y⟩:=y
    subst e y
    exact hs i σ _ hlt p
  · have e:i=n:=by omega
    subst e
    exact .inl ⟨Nat.le_refl _,hd σ H p⟩
end L2
namespace L2
open PySem PySem.Spec PyProof.Rows
abbrev R2:=V→V→Hp→VK→Prop
def OpR (X:Cx) (f:Value→Value→Sem Value) (r:R2):Prop :=
  ∀ (pins:List (Addr×Obj)) (s:Shared) (σ:St) (H:Hp) (x y:V) (v u:Value) (Q:VK),Inv X pins σ H s→RelV x v→RelV y u→r x y H Q →
    wpAny (model X.prog X.w) X.A (f v u) (EP X pins σ Q) X.xe s
def UnR (X:Cx) (f:Value→Sem Value) (r:V→Hp→VK→Prop):Prop :=
  ∀ (pins:List (Addr×Obj)) (s:Shared) (σ:St) (H:Hp) (x:V) (v:Value) (Q:VK),Inv X pins σ H s→RelV x v→r x H Q →
    wpAny (model X.prog X.w) X.A (f v) (EP X pins σ Q) X.xe s
def CallR (X:Cx) (f:Value) (r:List V→Hp→VK→Prop):Prop :=
  ∀ (pins:List (Addr×Obj)) (s:Shared) (σ:St) (H:Hp) (xs:List V) (us:List Value) (Q:VK),Inv X pins σ H s→Vals xs us→r xs H Q →
    wpAny (model X.prog X.w) X.A (call f us) (EP X pins σ Q) X.xe s
def TruR (X:Cx) (r:V→Hp→(Bool→Hp→Prop)→Prop):Prop :=
  ∀ (pins:List (Addr×Obj)) (s:Shared) (σ:St) (H:Hp) (x:V) (v:Value) (Q:Bool→Hp→Prop),Inv X pins σ H s→RelV x v→r x H Q →
    wpAny (model X.prog X.w) X.A (truthy v) (TP X pins σ Q) X.xe s
def tOp (r:R2) (ta tb:TE):TE:=fun σ H Q=>ta σ H fun x H1=>tb σ H1 fun y H2=>r x y H2 Q
def tUn (r:V→Hp→VK→Prop) (ta:TE):TE:=fun σ H Q=>ta σ H fun x H1=>r x H1 Q
def rI (C:Int→Int→Prop) (g:Int→Int→V):R2:=fun x y H Q=>∃ i j,x = .int i∧y = .int j∧C i j∧Q (g i j) H
def rI0 (g:Int→Int→V):R2:=fun x y H Q=>∃ i j,x = .int i∧y = .int j∧Q (g i j) H
def rU (g:Int→V):V→Hp→VK→Prop:=fun x H Q=>∃ i,x = .int i∧Q (g i) H
section
variable {X:Cx} {a b c:Expr} {ta tb tc:TE} {pos:Pos}
theorem binT (ha:PE X a ta) (hb:PE X b tb) {pins:List (Addr×Obj)} {s:Shared} {σ:St} {H:Hp} {R:V→V→Hp→Prop} (I:Inv X pins σ H s)
    (h:ta σ H fun x H1=>tb σ H1 fun y H2=>R x y H2) {Q:Value→Shared→Prop} {f:Value→Value→Sem Value}
    (hf:∀ v u s2 x y H2,Inv X pins σ H2 s2→RelV x v→RelV y u→R x y H2→wpAny (model X.prog X.w) X.A (f v u) Q X.xe s2) :
    wpAny (model X.prog X.w) X.A (eval a X.env) (fun v s₁=>wpAny (model X.prog X.w) X.A (eval b X.env) (fun u s₂=>wpAny (model X.prog X.w) X.A (f v u) Q X.xe s₂) X.xe s₁) X.xe s:=by
  refine thn (ha pins s σ H _ I h) fun v s1 ⟨x,H1,I1,r1,q1⟩=>?_
  refine thn (hb pins s1 σ H1 _ I1 q1) fun u s2 ⟨y,H2,I2,r2,q2⟩=>?_
  exact hf v u s2 x y H2 I2 r1 r2 q2
theorem pe_op {op:Operator} {r:R2} (ho:OpR X (binaryOp op) r) (ha:PE X a ta) (hb:PE X b tb):PE X (.BinOp a op b pos) (tOp r ta tb):=by
  intro pins s σ H Q I h
  exact wpAny_BinOp (binT ha hb I h fun v u s2 x y H2 I2 rx ry q=>ho pins s2 σ H2 x y v u Q I2 rx ry q)
theorem pe_un {op:UnaryOp} {r:V→Hp→VK→Prop} (ho:UnR X (unaryOp op) r) (ha:PE X a ta):PE X (.UnaryOp op a pos) (tUn r ta):=by
  intro pins s σ H Q I h
  exact UnaryOp_ (thn (ha pins s σ H _ I h) fun v s1 ⟨x,H1,I1,r1,q1⟩=>ho pins s1 σ H1 x v Q I1 r1 q1)
theorem opI {f:Value→Value→Sem Value} {C:Int→Int→Prop} {g:Int→Int→Int}
    (rule:∀ (i j:Int) (t u:Tok) (s:Shared) (Q:Value→Shared→Prop) (E:Value→Shared→Prop),C i j→Q (.int (g i j) s.toks) { s with toks:=s.toks+1 }→wpAny (model X.prog X.w) X.A (f (.int i t) (.int j u)) Q E s) :
    OpR X f (rI C fun i j=>.int (g i j)):=by
  intro pins s σ H x y v u Q I rx ry h
  obtain ⟨i,j,rfl,rfl,hc,q⟩:=h
  obtain ⟨t,rfl⟩:=rx
  obtain ⟨t',rfl⟩:=ry
  exact rule i j t t' s _ _ hc ⟨.int (g i j),H,I.tok _,⟨_,rfl⟩,q⟩
theorem opI0 {f:Value→Value→Sem Value} {g:Int→Int→Int}
    (rule:∀ (i j:Int) (t u:Tok) (s:Shared) (Q:Value→Shared→Prop) (E:Value→Shared→Prop),Q (.int (g i j) s.toks) { s with toks:=s.toks+1 }→wpAny (model X.prog X.w) X.A (f (.int i t) (.int j u)) Q E s) :
    OpR X f (rI0 fun i j=>.int (g i j)):=by
  intro pins s σ H x y v u Q I rx ry h
  obtain ⟨i,j,rfl,rfl,q⟩:=h
  obtain ⟨t,rfl⟩:=rx
  obtain ⟨t',rfl⟩:=ry
  exact rule i j t t' s _ _ ⟨.int (g i j),H,I.tok _,⟨_,rfl⟩,q⟩
theorem opB0 {f:Value→Value→Sem Value} {g:Int→Int→Bool}
    (rule:∀ (i j:Int) (t u:Tok) (s:Shared) (Q:Value→Shared→Prop) (E:Value→Shared→Prop),Q (.bool (g i j)) s→wpAny (model X.prog X.w) X.A (f (.int i t) (.int j u)) Q E s) :
    OpR X f (rI0 fun i j=>.bl (g i j)):=by
  intro pins s σ H x y v u Q I rx ry h
  obtain ⟨i,j,rfl,rfl,q⟩:=h
  obtain ⟨t,rfl⟩:=rx
  obtain ⟨t',rfl⟩:=ry
  exact rule i j t t' s _ _ ⟨.bl (g i j),H,I,rfl,q⟩
def CPow (i j:Int):Prop:=0≤j∧j≤1000000∧i.natAbs<2 ^ 64
theorem op_add:OpR X (binaryOp .Add) (rI0 fun i j=>.int (i+j)):=opI0 fun _ _ _ _ _ _ _ q=>add_int q
theorem op_sub:OpR X (binaryOp .Sub) (rI0 fun i j=>.int (i-j)):=opI0 fun _ _ _ _ _ _ _ q=>sub_int q
theorem op_mod:OpR X (binaryOp .Mod) (rI (fun _ j=>0<j) fun i j=>.int (i % j)):=opI fun i j _ _ _ _ _ hc q=>by
  have h1:(0:Int)<j:=hc
  exact mod_int' (by omega) (by rw [Int.fmod_eq_emod_of_nonneg i (by omega)]; exact q)
theorem op_pow:OpR X (binaryOp .Pow) (rI CPow fun i j=>.int (i ^ j.toNat)):=opI fun _ _ _ _ _ _ _ hc q=>pow_int_small hc.1 hc.2.1 hc.2.2 q
theorem unI {f:Value→Sem Value} {g:Int→Int}
    (rule:∀ (i:Int) (t:Tok) (s:Shared) (Q:Value→Shared→Prop) (E:Value→Shared→Prop),Q (.int (g i) s.toks) { s with toks:=s.toks+1 }→wpAny (model X.prog X.w) X.A (f (.int i t)) Q E s) :
    UnR X f (rU fun i=>.int (g i)):=by
  intro pins s σ H x v Q I rx h
  obtain ⟨i,rfl,q⟩:=h
  obtain ⟨t,rfl⟩:=rx
  exact rule i t s _ _ ⟨.int (g i),H,I.tok _,⟨_,rfl⟩,q⟩
theorem un_neg:UnR X (unaryOp .USub) (rU fun i=>.int (-i)):=unI fun _ _ _ _ _ q=>neg_int q
end
def scal:V→V→Bool
  | .non,.non=>true | .non,.int _=>true | .int _,.non=>true | .non,.bl _=>true | .bl _,.non=>true | .non,.str _=>true | .str _,.non=>true
  | .int _,.int _=>true | .bl _,.bl _=>true | .str _,.str _=>true | .byt _,.byt _=>true
  | .int _,.str _=>true | .str _,.int _=>true | .bl _,.str _=>true | .str _,.bl _=>true
  | _,_=>false
def rEq:R2:=fun x y H Q=>scal x y=true∧Q (.bl (decide (x=y))) H
def rNe:R2:=fun x y H Q=>scal x y=true∧Q (.bl (!decide (x=y))) H
theorem dec_int {i j:Int}:decide (V.int i=V.int j)=(i == j):=by
  rw [Bool.eq_iff_iff]
  simp
theorem dec_bl {i j:Bool}:decide (V.bl i=V.bl j)=(i == j):=by
  rw [Bool.eq_iff_iff]
  simp
theorem dec_str {i j:Str}:decide (V.str i=V.str j)=(i == j):=by
  rw [Bool.eq_iff_iff]
  simp
theorem dec_byt {i j:Array UInt8}:decide (V.byt i=V.byt j)=(i.toList == j.toList):=by
  rw [Bool.eq_iff_iff]
  cases i
  cases j
  simp
section
variable {X:Cx} {a b c:Expr} {ta tb tc:TE} {pos:Pos}
theorem fin_bl {pins:List (Addr×Obj)} {σ:St} {H:Hp} {s:Shared} {Q:VK} {k k':Bool} (I:Inv X pins σ H s) (q:Q (.bl k) H) (e:k=k'):EP X pins σ Q (.bool k') s:=by
  subst e
  exact ⟨.bl k,H,I,rfl,q⟩
theorem op_eq:OpR X (compareOp .Eq) rEq:=by
  intro pins s σ H x y v u Q I rx ry h
  obtain ⟨hs,q⟩:=h
  cases x with
  | non =>
    cases rx
    cases y with
    | non=>cases ry; exact PySem.EqNone.eq_none_none (fin_bl I q (by simp))
    | bl j=>cases ry; exact PySem.EqNone.eq_none_bool (fin_bl I q (by simp))
    | int j=>obtain ⟨t',rfl⟩:=ry; exact PySem.EqNone.eq_none_int (fin_bl I q (by simp))
    | str j=>obtain ⟨t',rfl⟩:=ry; exact PySem.EqNone.eq_none_str (fin_bl I q (by simp))
    | _=>exact absurd (show false=true from hs) Bool.false_ne_true
  | bl i =>
    cases rx
    cases y with
    | non=>cases ry; exact PySem.EqNone.eq_bool_none (fin_bl I q (by simp))
    | bl j=>cases ry; exact eq_bool (fin_bl I q dec_bl)
    | str j=>obtain ⟨t',rfl⟩:=ry; exact PySem.EqMixed.eq_bool_str (fin_bl I q (by simp))
    | _=>exact absurd (show false=true from hs) Bool.false_ne_true
  | int i =>
    obtain ⟨t,rfl⟩:=rx
    cases y with
    | non=>cases ry; exact PySem.EqNone.eq_int_none (fin_bl I q (by simp))
    | int j=>obtain ⟨t',rfl⟩:=ry; exact eq_int (fin_bl I q dec_int)
    | str j=>obtain ⟨t',rfl⟩:=ry; exact PySem.EqMixed.eq_int_str (fin_bl I q (by simp))
    | _=>exact absurd (show false=true from hs) Bool.false_ne_true
  | str i =>
    obtain ⟨t,rfl⟩:=rx
    cases y with
    | non=>cases ry; exact PySem.EqNone.eq_str_none (fin_bl I q (by simp))
    | bl j=>cases ry; exact PySem.EqMixed.eq_str_bool (fin_bl I q (by simp))
    | int j=>obtain ⟨t',rfl⟩:=ry; exact PySem.EqMixed.eq_str_int (fin_bl I q (by simp))
    | str j=>obtain ⟨t',rfl⟩:=ry; exact eq_str (fin_bl I q dec_str)
    | _=>exact absurd (show false=true from hs) Bool.false_ne_true
  | byt i =>
    obtain ⟨t,rfl⟩:=rx
    cases y with
    | byt j=>obtain ⟨t',rfl⟩:=ry; exact PySem.W.eq_bytes (fin_bl I q dec_byt)
    | _=>exact absurd (show false=true from hs) Bool.false_ne_true
  | _=>cases y <;> exact absurd (show false=true from hs) Bool.false_ne_true
theorem op_ne:OpR X (compareOp .NotEq) rNe:=by
  intro pins s σ H x y v u Q I rx ry h
  obtain ⟨hs,q⟩:=h
  cases x with
  | non =>
    cases rx
    cases y with
    | non=>cases ry; exact PySem.EqNone.ne_none_none (fin_bl I q (by simp))
    | bl j=>cases ry; exact PySem.EqNone.ne_none_bool (fin_bl I q (by simp))
    | int j=>obtain ⟨t',rfl⟩:=ry; exact PySem.EqNone.ne_none_int (fin_bl I q (by simp))
    | str j=>obtain ⟨t',rfl⟩:=ry; exact PySem.EqNone.ne_none_str (fin_bl I q (by simp))
    | _=>exact absurd (show false=true from hs) Bool.false_ne_true
  | bl i =>
    cases rx
    cases y with
    | non=>cases ry; exact PySem.EqNone.ne_bool_none (fin_bl I q (by simp))
    | bl j=>cases ry; exact ne_bool (fin_bl I q (congrArg not dec_bl))
    | str j=>obtain ⟨t',rfl⟩:=ry; exact PySem.EqMixed.ne_bool_str (fin_bl I q (by simp))
    | _=>exact absurd (show false=true from hs) Bool.false_ne_true
  | int i =>
    obtain ⟨t,rfl⟩:=rx
    cases y with
    | non=>cases ry; exact PySem.EqNone.ne_int_none (fin_bl I q (by simp))
    | int j=>obtain ⟨t',rfl⟩:=ry; exact ne_int (fin_bl I q (congrArg not dec_int))
    | str j=>obtain ⟨t',rfl⟩:=ry; exact PySem.EqMixed.ne_int_str (fin_bl I q (by simp))
    | _=>exact absurd (show false=true from hs) Bool.false_ne_true
  | str i =>
    obtain ⟨t,rfl⟩:=rx
    cases y with
    | non=>cases ry; exact PySem.EqNone.ne_str_none (fin_bl I q (by simp))
    | bl j=>cases ry; exact PySem.EqMixed.ne_str_bool (fin_bl I q (by simp))
    | int j=>obtain ⟨t',rfl⟩:=ry; exact PySem.EqMixed.ne_str_int (fin_bl I q (by simp))
    | str j=>obtain ⟨t',rfl⟩:=ry; exact ne_str (fin_bl I q (congrArg not dec_str))
    | _=>exact absurd (show false=true from hs) Bool.false_ne_true
  | byt i =>
    obtain ⟨t,rfl⟩:=rx
    cases y with
    | byt j=>obtain ⟨t',rfl⟩:=ry; exact PySem.W.ne_bytes (fin_bl I q (congrArg not dec_byt))
    | _=>exact absurd (show false=true from hs) Bool.false_ne_true
  | _=>cases y <;> exact absurd (show false=true from hs) Bool.false_ne_true
theorem op_lt:OpR X (compareOp .Lt) (rI0 fun i j=>.bl (decide (i<j))):=opB0 fun _ _ _ _ _ _ _ q=>lt_int q
theorem op_gt:OpR X (compareOp .Gt) (rI0 fun i j=>.bl (decide (j<i))):=opB0 fun _ _ _ _ _ _ _ q=>gt_int q
theorem nomark (b:Expr) {op:CmpOp} (h:op≠.In:=by decide) (h2:op≠.NotIn:=by decide):behindInMarks op b=false:=by
  have e1:(op == CmpOp.In)=false:=by cases op <;> first | rfl | exact absurd rfl h
  have e2:(op == CmpOp.NotIn)=false:=by cases op <;> first | rfl | exact absurd rfl h2
  cases b <;> simp [behindInMarks,e1,e2]
theorem pe_cmpR {op:CmpOp} {r:R2} (ho:OpR X (compareOp op) r) (ha:PE X a ta) (hb:PE X b tb) (hm:behindInMarks op b=false):PE X (.Compare a [op] [b] pos) (tOp r ta tb):=by
  intro pins s σ H Q I h
  exact wpAny_Compare1 (binT ha hb I h fun v u s2 x y H2 I2 rx ry q=>ho pins s2 σ H2 x y v u Q I2 rx ry q) hm
def tTest (t:TE):TT:=fun σ H Q=>t σ H fun x H'=>∃ k,x = .bl k∧Q k H'
theorem pt_cmpR {op:CmpOp} {r:R2} (ho:OpR X (compareOp op) r) (ha:PE X a ta) (hb:PE X b tb) (hm:behindInMarks op b=false):PT X (.Compare a [op] [b] pos) (tTest (tOp r ta tb)):=by
  intro pins s σ H Q I h
  refine wpAny_isTrue_Compare1 (thn (ha pins s σ H _ I h) fun v s1 ⟨x,H1,I1,r1,q1⟩=>thn (hb pins s1 σ H1 _ I1 q1) fun u s2 ⟨y,H2,I2,r2,q2⟩ =>
    thn (ho pins s2 σ H2 x y v u _ I2 r1 r2 q2) fun c s3 ⟨z,H3,I3,r3,k,e,q3⟩=>?_) hm
  subst e
  cases r3
  exact wpAny_truthy_bool ⟨H3,I3,q3⟩
def tChain (r r':R2) (ta tb tc:TE):TE:=fun σ H Q=>ta σ H fun x H1=>tb σ H1 fun y H2=>r x y H2 fun z H3=>∃ k,z = .bl k ∧
  (if k=true then tc σ H3 fun w' H4=>r' y w' H4 Q else Q (.bl false) H3)
def TruV (K:PySem.W.Frag) (x:V) (H:Hp) (k:Bool):Prop :=
  match x with
  | .non=>k=false
  | .bl b=>k=b
  | .int i=>k=(i != 0)
  | .str y=>y.length≤sizeLine∧k=((y.length:Int) != 0)
  | .byt y=>y.size≤sizeLine∧k=((y.size:Int) != 0)
  | .ref p=>(∃ xs,SqL K H p xs∧k = !xs.isEmpty)∨(∃ xs,SqT K H p xs∧k = !xs.isEmpty)∨∃ kvs,H p=some (.dK kvs)∧k = !kvs.isEmpty
  | _=>False
theorem isEmpty_kv {κ:Type} {kvs:List (κ×V)} {vs:List (κ×Value)} (r:KV kvs vs):(!vs.isEmpty) = !kvs.isEmpty:=by
  cases r <;> rfl
theorem isEmpty_of {xs:List V} {its:List Value} (r:Vals xs its):(!its.toArray.isEmpty) = !xs.isEmpty:=by
  cases r <;> simp
theorem line63:(sizeLine:Nat)<2 ^ 63:=by rw [sizeLine_eq]; decide
theorem tru_ok:TruR X (fun x H Q=>∃ k,TruV X.K x H k∧Q k H):=by
  intro pins s σ H x v Q I rx h
  obtain ⟨k,e,q⟩:=h
  have hl:=line63
  have hs:sizeLine = 16777216:=sizeLine_eq
  cases x with
  | non =>
    cases rx
    have e':k=false:=e
    subst e'
    exact truthy_none ⟨H,I,q⟩
  | bl b =>
    cases rx
    have e':k=b:=e
    subst e'
    exact wpAny_truthy_bool ⟨H,I,q⟩
  | int i =>
    obtain ⟨t,rfl⟩:=rx
    have e':k=(i != 0):=e
    subst e'
    exact PySem.P.truthy_int ⟨H,I,q⟩
  | str y =>
    obtain ⟨t,rfl⟩:=rx
    obtain ⟨hy,e'⟩:y.length≤sizeLine∧k=((y.length:Int) != 0):=e
    subst e'
    exact PySem.P.truthy_str (by omega) ⟨H,I.tok _,q⟩
  | byt y =>
    obtain ⟨t,rfl⟩:=rx
    obtain ⟨hy,e'⟩:y.size≤sizeLine∧k=((y.size:Int) != 0):=e
    subst e'
    exact PySem.W.truthy_bytes (by omega) ⟨H,I.tok _,q⟩
  | ref p =>
    cases rx
    have e':(∃ xs,SqL X.K H p xs∧k = !xs.isEmpty)∨(∃ xs,SqT X.K H p xs∧k = !xs.isEmpty)∨∃ kvs,H p=some (.dK kvs)∧k = !kvs.isEmpty:=e
    rcases e' with ⟨xs,hx,e'⟩ | ⟨xs,hx,e'⟩ | ⟨kvs,hx,e'⟩
    · subst e'
      obtain ⟨its,r,pl,hz⟩:=I.list hx
      have hlen:=r.length
      exact wpAny_truthy_list pl.isList (by simp only [List.size_toArray]; omega) ⟨H,I.tok _,by rw [isEmpty_of r]; exact q⟩
    · subst e'
      obtain ⟨its,r,pl,hz⟩:=I.tuple hx
      have hlen:=r.length
      exact truthy_tuple pl (by simp only [List.size_toArray]; omega) ⟨H,I.tok _,by rw [isEmpty_of r]; exact q⟩
    · subst e'
      obtain ⟨hz,hS,vs,r,m⟩:kvs.length≤sizeLine∧(p == sysModules)=false∧∃ vs,KV kvs vs∧s.heap.DictOf (mixKind X.prog X.w) p vs:=I.hok p _ hx
      have hlen:kvs.length=vs.length:=Paired.length r
      exact wpAny_truthy_dict hS m (by omega) ⟨H,I.tok _,by rw [isEmpty_kv r]; exact q⟩
  | _=>exact (show False from e).elim
theorem pt_truth (ha:PE X a ta) (he:∀ whole,isTrue a X.env whole=(do let v ← whole; standAt a.pos; holding [v] (truthy v))) :
    PT X a (fun σ H Q=>ta σ H fun x H'=>∃ k,TruV X.K x H' k∧Q k H'):=by
  intro pins s σ H Q I h
  exact isTrue_plain (thn (ha pins s σ H _ I h) fun v s1 ⟨x,H1,I1,r1,q1⟩=>tru_ok pins s1 σ H1 x v Q I1 r1 q1) (he _)
theorem vals1 {x:V} {us:List Value} (r:Vals [x] us):∃ u,us = [u]∧RelV x u:=by
  cases r with
  | cons r1 r2=>cases r2; exact ⟨_,rfl,r1⟩
theorem vals2 {x y:V} {us:List Value} (r:Vals [x,y] us):∃ u w',us = [u,w']∧RelV x u∧RelV y w':=by
  cases r with
  | cons r1 r2 =>
    cases r2 with
    | cons r3 r4=>cases r4; exact ⟨_,_,rfl,r1,r3⟩
theorem call_abs:CallR X (.builtin "abs") (fun xs H Q=>∃ i,xs = [.int i]∧Q (.int (if i<0 then -i else i)) H):=by
  intro pins s σ H xs us Q I r h
  obtain ⟨i,rfl,q⟩:=h
  obtain ⟨u,rfl,t,rfl⟩:=vals1 r
  exact call_abs_int fun u tk=>⟨.int (if i<0 then -i else i),H,I.tok _,⟨_,rfl⟩,q⟩
theorem call_max2 (hc:X.calm=true):CallR X (.builtin "max") (fun xs H Q=>∃ i j,xs = [.int i,.int j]∧Q (.int (if j > i then j else i)) H):=by
  intro pins s σ H xs us Q I r h
  obtain ⟨i,j,rfl,q⟩:=h
  obtain ⟨u,w',rfl,⟨t,rfl⟩,⟨t',rfl⟩⟩:=vals2 r
  refine max_two_ints (I.ok.hd hc) fun h' tk k=>⟨_,H,I.kept k,?_,q⟩
  by_cases hj:j > i
  · rw [if_pos hj,if_pos hj]; exact ⟨_,rfl⟩
  · rw [if_neg hj,if_neg hj]; exact ⟨_,rfl⟩
theorem call_min2 (hc:X.calm=true):CallR X (.builtin "min") (fun xs H Q=>∃ i j,xs = [.int i,.int j]∧Q (.int (if j<i then j else i)) H):=by
  intro pins s σ H xs us Q I r h
  obtain ⟨i,j,rfl,q⟩:=h
  obtain ⟨u,w',rfl,⟨t,rfl⟩,⟨t',rfl⟩⟩:=vals2 r
  refine min_two_ints (I.ok.hd hc) fun h' tk k=>⟨_,H,I.kept k,?_,q⟩
  by_cases hj:j<i
  · rw [if_pos hj,if_pos hj]; exact ⟨_,rfl⟩
  · rw [if_neg hj,if_neg hj]; exact ⟨_,rfl⟩
end
end L2
namespace L2
open PySem PySem.Spec PyProof.Rows
structure ObjM (h:Heap) (x dx C:Addr) (mA:Str→Option Value):Prop where
  obj:h.get? x=some (PySem.W.instObj C dx)
  ns:h.Ns1 dx mA
  ne:dx≠x
theorem lookIn_ns {h:Heap} {dx:Addr} {mA:Str→Option Value} (n:h.Ns1 dx mA):∃ od,h.get? dx=some od∧∀ name,PySem.W.lookIn name od=some (mA name):=by
  obtain ⟨o,es,ep,ho,hd,hk,_,hm⟩:=n
  refine ⟨o,ho,fun name=>?_⟩
  have e:=hm name
  unfold nsFind findBy at e
  rw [← Array.find?_toList] at e
  unfold PySem.W.lookIn
  rw [hd]
  dsimp only
  split
  · rename_i y q
    rw [q] at e
    exact congrArg some e
  · rename_i q
    rw [q] at e
    have a:es.toList.any (·.refKey)=false:=by
      rw [List.any_eq_false]
      intro y hy
      obtain ⟨z,t,hkey⟩:=hk y (Array.mem_toList_iff.mp hy)
      simp [DictEntry.refKey,hkey]
    have a':¬ es.toList.any (·.refKey)=true:=by rw [a]; exact Bool.false_ne_true
    rw [if_neg a']
    exact congrArg some e
theorem ObjM.look {h:Heap} {x dx C:Addr} {mA:Str→Option Value} (I:ObjM h x dx C mA):∃ od,PySem.W.InstAt h x (PySem.W.instObj C dx) C (some od)∧∀ name,PySem.W.lookIn name od=some (mA name) :=
  let ⟨od,ho,hl⟩:=lookIn_ns I.ns
  ⟨od,⟨I.obj,rfl,rfl,ho⟩,hl⟩
section
variable {prog:Program} {w:World} {A:Around} {E:Value→Shared→Prop} {s:Shared} {K:PySem.W.Frag} {x dx C f:Addr} {mA:Str→Option Value} {name:Str} {v:Value}
theorem get_map {expr:Bool} {Q:Value→Shared→Prop} (X:K.In s.heap) (I:ObjM s.heap x dx C mA) (hg:PySem.W.plainGet K C name=true) (hh:PySem.W.hasDictIn K C=true)
    (ha:PySem.W.findIn K (.ref C) name=some none) (hv:mA name=some v) (hv':PySem.W.handedIn v=true) (h:Q v { s with toks:=s.toks+1 }) :
    wpAny (model prog w) A (getAttr (.ref x) name expr) Q E s:=by
  obtain ⟨od,J,hl⟩:=I.look
  exact PySem.W.get_value X J (PySem.W.plainGet_of hg).1 (PySem.W.findObj_own hh ha rfl (by rw [hl,hv])) hv' h
theorem get_meth {pl:Sem Bool} {Q:Value×List Value→Shared→Prop} (X:K.In s.heap) (I:ObjM s.heap x dx C mA) (hg:PySem.W.plainGet K C name=true)
    (hf:PySem.W.findIn K (.ref C) name=some (some (.ref f))) (ht:PySem.W.isFn K (.ref f)=true) (hv:mA name=none) (h:Q (.ref f,[.ref x]) s) :
    wpAny (model prog w) A (getMethod (.ref x) name pl) Q E s:=by
  obtain ⟨od,J,hl⟩:=I.look
  exact PySem.W.method_fn X J (PySem.W.plainGet_of hg).1 (PySem.W.plainGet_of hg).2 hf (beq_iff_eq.mp ht) (by show (PySem.W.lookIn name od).map (·.isSome)=some false; rw [hl,hv]; rfl) h
theorem set_map {ns:List Str} {Q:Unit→Shared→Prop} (X:K.In s.heap) (I:ObjM s.heap x dx C mA)
    (hs:PySem.W.findIn K (.ref C) "__setattr__" = some (some (.builtin "object.__setattr__"))) (hp:PySem.W.plainOver K C=true) (ht:PySem.W.takerIn K C name=some none) (hh:PySem.W.hasDictIn K C=true)
    (hw:PySem.Within mA ns) (hsz:ns.length≤sizeLine)
    (h:∀ h',ObjM h' x dx C (fun y=>if y=name then some v else mA y)→Heap.SameBut dx s.heap h'→Q () { s with heap:=h',toks:=s.toks+2 }) :
    wpAny (model prog w) A (setAttr (.ref x) name v) Q E s:=by
  obtain ⟨od,J,hl⟩:=I.look
  refine PySem.W.set_plain X J hs (PySem.W.osa_open (s:={ s with toks:=s.toks+1 }) (r:=none) X J hp ht fun b=>?_)
  obtain ⟨cd,hc,hd'⟩:=PySem.W.any_some hh
  have hx:s.heap.get? x=some ⟨.ref C,some dx,.plain,#[]⟩:=I.obj
  refine wpAny_bind (wpAny_pure (wpAny_bind (wpAny_bind (wpAny_loadPart hx (wpAny_bind (PySem.W.Looks.here (s:={ s with toks:=s.toks+1 }) (PySem.W.looks_clsIn X hc) ?_))))))
  rw [hd']
  refine wpAny_pure (a:=some dx) (wpAny_bind (wpAny_pure (wpAny_bind ?_)))
  refine wpAny_nsSet1 (s:={ s with toks:=s.toks+1 }) I.ns fun h' hn2 hs2=>?_
  obtain ⟨oD,esD,epD,hoD,hdD,hcD⟩:=hn2.count (PySem.Within.cons name v hw)
  refine wpAny_bind (wpAny_lookBehind hoD (by rw [hdD]; exact pastItsLine_dict (Nat.le_trans hcD (by rw [List.length_cons]; omega))) ?_)
  exact wpAny_pure (h _ ⟨(hs2.2 _ (Ne.symm I.ne)).trans I.obj,hn2,I.ne⟩ hs2)
theorem make_map {R:Result→Shared→Prop} {vs:List Value} {kw:List (Str×Value)} (X:K.In s.heap) (hm:PySem.W.makesIn K C=true)
    (hi:PySem.W.findIn K (.ref C) "__init__" = some (some (.ref f))) (hf:PySem.W.typeIn K (.ref f)=some (.type "function"))
    (h:codeAny (model prog w) (A.under (.builtin "type.__call__" ⟨.ref C :: vs,kw⟩)) (.call (.ref f) ⟨.ref (s.heap.objs.size+1) :: vs,kw⟩) (PySem.W.InitBack (s.heap.objs.size+1) R)
      { s with heap:=(s.heap.push PySem.W.emptyDict).push (PySem.W.instObj C s.heap.objs.size) }) :
    codeAny (model prog w) A (.call (.ref C) ⟨vs,kw⟩) R s:=by
  obtain ⟨hh,g,d,t,os⟩:=s
  exact PySem.W.make_core (PySem.W.makes_of X hm) (PySem.W.looks_findIn X hi) (fun self=>PySem.W.bind_fn X self hf) (.inl rfl) h
end
def putF (f:Str) (v:V):List (Str×V)→List (Str×V)
  | []=>[(f,v)]
  | (g,x) :: r=>if g=f then (g,v) :: r else (g,x) :: putF f v r
theorem lookup_putF (f g:Str) (v:V):∀ fs:List (Str×V),(putF f v fs).lookup g=if g=f then some v else fs.lookup g
  | []=>by
    show List.lookup g [(f,v)] = _
    by_cases h:g=f
    · have hb:(g == f)=true:=beq_iff_eq.mpr h
      simp only [List.lookup,hb,if_pos h]
    · have hb:(g == f)=false:=beq_eq_false_iff_ne.mpr h
      simp only [List.lookup,hb,if_neg h]
  | (k,x) :: r=>by
    have ih:=lookup_putF f g v r
    rw [show putF f v ((k,x) :: r)=(if k=f then (k,v) :: r else (k,x) :: putF f v r) from rfl]
    by_cases hk:k=f
    · rw [if_pos hk]
      by_cases h:g=k
      · have hb:(g == k)=true:=beq_iff_eq.mpr h
        simp only [List.lookup,hb,if_pos (h.trans hk)]
      · have hb:(g == k)=false:=beq_eq_false_iff_ne.mpr h
        simp only [List.lookup,hb,if_neg (fun e:g=f=>h (e.trans hk.symm))]
    · rw [if_neg hk]
      by_cases h:g=k
      · have hb:(g == k)=true:=beq_iff_eq.mpr h
        simp only [List.lookup,hb,if_neg (fun e:g=f=>hk (h.symm.trans e))]
      · have hb:(g == k)=false:=beq_eq_false_iff_ne.mpr h
        simp only [List.lookup,hb]
        exact ih
theorem keys_putF (f:Str) (v:V):∀ fs:List (Str×V),f∈(putF f v fs).map (·.1)∧∀ g,g∈fs.map (·.1)→g∈(putF f v fs).map (·.1)
  | []=>⟨by simp [putF],fun g h=>by simp at h⟩
  | (k,x) :: r=>by
    obtain ⟨i1,i2⟩:=keys_putF f v r
    rw [show putF f v ((k,x) :: r)=(if k=f then (k,v) :: r else (k,x) :: putF f v r) from rfl]
    by_cases hk:k=f
    · rw [if_pos hk]
      subst hk
      exact ⟨by simp,fun g h=>by simpa using h⟩
    · rw [if_neg hk]
      refine ⟨?_,fun g h=>?_⟩
      · rw [List.map_cons]
        exact List.mem_cons_of_mem _ i1
      · rw [List.map_cons] at h ⊢
        rcases List.mem_cons.mp h with e | e
        · exact List.mem_cons.mpr (.inl e)
        · exact List.mem_cons_of_mem _ (i2 g e)
theorem length_putF (f:Str) (v:V):∀ fs:List (Str×V),(putF f v fs).length≤fs.length+1
  | []=>by simp [putF]
  | (k,x) :: r=>by
    have ih:=length_putF f v r
    rw [show putF f v ((k,x) :: r)=(if k=f then (k,v) :: r else (k,x) :: putF f v r) from rfl]
    by_cases hk:k=f
    · rw [if_pos hk,List.length_cons,List.length_cons]; omega
    · rw [if_neg hk,List.length_cons,List.length_cons]; omega
theorem RelO.some_of {v:V} {o:Option Value} (r:RelO (some v) o):∃ u,o=some u∧RelV v u:=by
  cases o with
  | none=>exact (show False from r).elim
  | some u=>exact ⟨u,rfl,r⟩
theorem RelO.none_of {o:Option Value} (r:RelO none o):o=none:=by
  cases o with
  | none=>rfl
  | some u=>exact (show False from r).elim
theorem handed_of {v:V} {u:Value} (r:RelV v u):PySem.W.handedIn u=true:=by
  cases v with
  | non=>cases (show u=Value.none from r); rfl
  | bl b=>cases (show u=Value.bool b from r); rfl
  | int i=>obtain ⟨t,e⟩:=(show ∃ t,u=Value.int i t from r); cases e; rfl
  | str x=>obtain ⟨t,e⟩:=(show ∃ t,u=Value.str x t from r); cases e; rfl
  | byt b=>obtain ⟨t,e⟩:=(show ∃ t,u=Value.bytes b t from r); cases e; rfl
  | flt b=>obtain ⟨t,e⟩:=(show ∃ t,u=Value.float b t from r); cases e; rfl
  | ref a=>cases (show u=Value.ref a from r); rfl
  | ty n=>cases (show u=Value.type n from r); rfl
section
variable {P:Program} {w:World} {H H':Hp} {h h':Heap} {a C dx:Addr} {fs fs':List (Str×V)}
theorem ins_get (hok:HOk P w H h) (e:H a=some (.ins C dx fs)):∃ mA,ObjM h a dx C mA∧(∀ f,RelO (fs.lookup f) (mA f))∧PySem.Within mA (fs.map (·.1))∧fs.length≤1000∧H dx=some (.own a):=by
  obtain ⟨d,z,ne,ob,mA,n,r,q⟩:=(show ObjOk P w H h a (.ins C dx fs) from hok a _ e)
  exact ⟨mA,⟨ob,n,ne⟩,r,q,z,d⟩
end
structure Cls (K:PySem.W.Frag) (C:Addr):Prop where
  pg:PySem.W.plainGet K C Str.empty=true
  hd:PySem.W.hasDictIn K C=true
  po:PySem.W.plainOver K C=true
  sa:PySem.W.findIn K (.ref C) "__setattr__" = some (some (.builtin "object.__setattr__"))
theorem Cls.get {K:PySem.W.Frag} {C:Addr} (c:Cls K C) (f:Str):PySem.W.plainGet K C f=true:=c.pg
def NoAttr (K:PySem.W.Frag) (C:Addr) (f:Str):Prop:=PySem.W.findIn K (.ref C) f=some none
theorem NoAttr.taker {K:PySem.W.Frag} {C:Addr} {f:Str} (n:NoAttr K C f):PySem.W.takerIn K C f=some none:=by
  unfold PySem.W.takerIn
  rw [show PySem.W.findIn K (.ref C) f=some none from n]
  rfl
structure Meth (K:PySem.W.Frag) (C:Addr) (m:Str) (f:Addr):Prop where
  at_:PySem.W.findIn K (.ref C) m=some (some (.ref f))
  fn:PySem.W.isFn K (.ref f)=true
  kp:PySem.W.keepIn K (.ref f)=true
section
variable {X:Cx} {pins:List (Addr×Obj)} {σ:St} {H:Hp} {s:Shared} {a C dx:Addr} {fs:List (Str×V)} {f:Str} {v:V} {A:Around} {E:Value→Shared→Prop}
theorem getattr_ok {b:Bool} {Q:Value→Shared→Prop} (I:Inv X pins σ H s) (e:H a=some (.ins C dx fs)) (c:Cls X.K C) (n:NoAttr X.K C f) (l:fs.lookup f=some v)
    (h:∀ u s',Inv X pins σ H s'→RelV v u→Q u s'):wpAny (model X.prog X.w) A (getAttr (.ref a) f b) Q E s:=by
  obtain ⟨mA,O,r,_,_,_⟩:=ins_get I.hok e
  obtain ⟨u,hu,ru⟩:=RelO.some_of (v:=v) (o:=mA f) (by rw [← l]; exact r f)
  exact get_map I.kIn O (c.get f) c.hd n hu (handed_of ru) (h u _ (I.tok _) ru)
theorem getmeth_ok {m:Str} {g:Addr} {pl:Sem Bool} {Q:Value×List Value→Shared→Prop} (I:Inv X pins σ H s) (e:H a=some (.ins C dx fs)) (c:Cls X.K C) (k:Meth X.K C m g) (l:fs.lookup m=none)
    (h:Q (.ref g,[.ref a]) s):wpAny (model X.prog X.w) A (getMethod (.ref a) m pl) Q E s:=by
  obtain ⟨mA,O,r,_,_,_⟩:=ins_get I.hok e
  have hn:mA m=none:=RelO.none_of (by rw [← l]; exact r m)
  exact get_meth I.kIn O (c.get m) k.at_ k.fn hn h
theorem setattr_ok {y:V} {u:Value} {Q:Unit→Shared→Prop} (I:Inv X pins σ H s) (e:H a=some (.ins C dx fs)) (c:Cls X.K C) (n:NoAttr X.K C f) (hl:fs.length<1000) (ry:RelV y u)
    (h:∀ s',Inv X pins σ (upd H a (.ins C dx (putF f y fs))) s'→Q () s'):wpAny (model X.prog X.w) A (setAttr (.ref a) f u) Q E s:=by
  obtain ⟨mA,O,r,wi,_,ho⟩:=ins_get I.hok e
  have hz:(fs.map (·.1)).length≤sizeLine:=by rw [List.length_map,sizeLine_eq]; omega
  refine set_map I.kIn O c.sa c.po n.taker c.hd wi hz fun h' O' sb=>h _ ?_
  have hd:∃ o,h'.get? dx=some o:=let ⟨o,_,_,e',_⟩:=O'.ns; ⟨o,e'⟩
  refine I.write (x:=a) (e:=dx) (by rw [e]; exact True.intro) (.inr ho) (fun b q hb z=>(sb.2 b hb).trans z) hd ?_
  refine ⟨by rw [upd_ne O.ne]; exact ho,?_,O.ne,O'.obj,_,O'.ns,fun g=>?_,fun g hg=>?_⟩
  · have:=length_putF f y fs; omega
  · show RelO ((putF f y fs).lookup g) (if g=f then some u else mA g)
    rw [lookup_putF]
    by_cases q:g=f
    · rw [if_pos q,if_pos q]; exact ry
    · rw [if_neg q,if_neg q]; exact r g
  · by_cases q:g=f
    · rw [q]; exact (keys_putF f y fs).1
    · refine (keys_putF f y fs).2 g (wi g fun z=>hg ?_)
      show (if g=f then some u else mA g)=none
      rw [if_neg q]; exact z
theorem Inv.made (I:Inv X pins σ H s):Inv X pins σ (upd (upd H s.heap.objs.size (.own (s.heap.objs.size+1))) (s.heap.objs.size+1) (.ins C s.heap.objs.size []))
    { s with heap:=(s.heap.push PySem.W.emptyDict).push (PySem.W.instObj C s.heap.objs.size) }:=by
  have e1:(s.heap.push PySem.W.emptyDict).get? s.heap.objs.size=some PySem.W.emptyDict:=Heap.get?_push_size s.heap rfl
  have e2:((s.heap.push PySem.W.emptyDict).push (PySem.W.instObj C s.heap.objs.size)).get? (s.heap.objs.size+1)=some (PySem.W.instObj C s.heap.objs.size):=by
    have:=Heap.get?_push_size (s.heap.push PySem.W.emptyDict) (o:=PySem.W.instObj C s.heap.objs.size) rfl
    rwa [Heap.size_push] at this
  have e3:(s.heap.push PySem.W.emptyDict).Ns s.heap.objs.size (fun _=>none):=⟨PySem.W.emptyDict,#[],_,e1,rfl,(fun e he=>absurd he (by simp)),fun _=>rfl⟩
  have I1:=I.laid (a:=s.heap.objs.size) (o:=.own (s.heap.objs.size+1)) (h':=s.heap.push PySem.W.emptyDict) (t':=s.toks) (fun b u q=>Heap.get?_push_of_some _ q) (Nat.le_refl _) ⟨_,e1⟩
  refine I1.laid (a:=s.heap.objs.size+1) (o:=.ins C s.heap.objs.size []) (t':=s.toks) (fun b u q=>Heap.get?_push_of_some _ q) (Nat.le_of_eq (Heap.size_push _ _)) ?_
  have ne:s.heap.objs.size≠s.heap.objs.size+1:=Nat.ne_of_lt (Nat.lt_succ_self _)
  refine ⟨by rw [upd_ne ne,upd_same],Nat.zero_le _,ne,e2,fun _=>none,(Heap.Ns1.of_empty e3).at fun o q=>Heap.get?_push_of_some _ q,fun _=>True.intro,fun y hy=>absurd rfl hy⟩
theorem attr_of {prog:Program} {w:World} {env:Env} {e:Expr} {f:Str} {pos:Pos} {s:Shared} {Q:Value→Shared→Prop} (hb:attributeBase e f env (eval e env)=eval e env)
    (h:wpAny (model prog w) A (eval e env) (fun o s₁=>wpAny (model prog w) A (getAttr o f true) Q E s₁) E s):wpAny (model prog w) A (eval (.Attribute e f pos) env) Q E s :=
  Attribute_any_ h (by rw [arm_eval_Attribute,hb])
end
def tFld (K:PySem.W.Frag) (ta:TE) (f:Str):TE:=fun σ H Q=>ta σ H fun x H1=>∃ a C dx fs v,x = .ref a∧H1 a=some (.ins C dx fs)∧Cls K C∧NoAttr K C f∧fs.lookup f=some v∧Q v H1
def sFld (K:PySem.W.Frag) (ta tv:TE) (f:Str):TS:=fun D σ H=>tv σ H fun y H1=>ta σ H1 fun x H2=>∃ a C dx fs,x = .ref a∧H2 a=some (.ins C dx fs)∧Cls K C∧NoAttr K C f∧fs.length<1000 ∧
  D.nx σ (upd H2 a (.ins C dx (putF f y fs)))
section
variable {X:Cx} {o e value:Expr} {f:Str} {pos pos' tpos:Pos} {ta tv:TE}
theorem pe_fld (he:PE X e ta) (hb:attributeBase e f X.env (eval e X.env)=eval e X.env):PE X (.Attribute e f pos) (tFld X.K ta f):=by
  intro pins s σ H Q I h
  refine attr_of hb (thn (he pins s σ H _ I h) fun u s1 ⟨x,H1,I1,rx,a,C,dx,fs,v,ex,ea,c,n,l,q⟩=>?_)
  subst ex
  obtain rfl:u=Value.ref a:=rx
  exact getattr_ok I1 ea c n l fun u' s2 I2 ru=>⟨v,H1,I2,ru,q⟩
theorem ps_fld (ha:PE X o ta) (hv:PE X value tv) (hs:swapsWith value (some (.Attribute o f pos')) pos.line X.env=pure false):PS X (.Assign [.Attribute o f pos'] value pos) (sFld X.K ta tv f):=by
  intro pins s σ H D I h
  refine plainObj_wpAny_Assign_Attribute (thn (hv pins s σ H _ I h) fun u s1 ⟨y,H1,I1,ry,q⟩=>thn (ha pins s1 σ H1 _ I1 q) fun ov s2 ⟨x,H2,I2,rx,a,C,dx,fs,ex,ea,c,n,l,q2⟩=>?_) hs
  subst ex
  obtain rfl:ov=Value.ref a:=rx
  exact setattr_ok I2 ea c n l ry fun s3 I3=>⟨σ,_,I3,q2⟩
end
section
variable {X:Cx} {pins:List (Addr×Obj)} {σ:St} {H:Hp} {s:Shared} {A:Around} {E:Value→Shared→Prop} {Q:Value→Shared→Prop} {c:Value} {b:Bool}
end
end L2
namespace L2
open PySem PySem.Spec PyProof.Rows
structure Room (k:Nat) (A:Around):Prop where
  hd:A.handled=none
  dp:A.depth+3*k+5<recursionLimit
  un:A.units+16*k+200<cLine
theorem Room.mono {j k:Nat} {A:Around} (r:Room k A) (h:j≤k):Room j A:=⟨r.hd,by have:=r.dp; omega,by have:=r.un; omega⟩
theorem Room.deeper {k:Nat} {A:Around} (r:Room (k+1) A) (env:Env):Room k (A.deeper env) :=
  ⟨r.hd,by have:=r.dp; show A.depth+1+3*k+5 < _; omega,by have:=r.un; show A.units+3+16*k+200 < _; omega⟩
theorem make_depth {A:Around} {C:Addr} {us:List Value} {kw:List (Str×Value)}:(A.under (.builtin "type.__call__" ⟨.ref C :: us,kw⟩)).depth=A.depth+1:=by
  first | rfl | simp [Around.under,Code.weight,Code.isCreation,Code.isGuard,Code.isCaller,Code.frames,Code.isFrame,guardIds]
theorem make_units {A:Around} {C:Addr} {us:List Value} {kw:List (Str×Value)}:(A.under (.builtin "type.__call__" ⟨.ref C :: us,kw⟩)).units=A.units+1:=by
  first | rfl | simp [Around.under,Code.cUnits,Code.frames,Code.isFrame]
theorem Room.make {k:Nat} {A:Around} (r:Room (k+1) A) (C:Addr) (us:List Value) (kw:List (Str×Value)):Room k (A.under (.builtin "type.__call__" ⟨.ref C :: us,kw⟩)) :=
  ⟨r.hd,by have:=r.dp; rw [make_depth]; omega,by have:=r.un; rw [make_units]; omega⟩
theorem Room.depth {k:Nat} {A:Around} (r:Room k A):A.depth<recursionLimit:=by have:=r.dp; omega
theorem Room.units {k:Nat} {A:Around} (r:Room k A):A.units+64<cLine:=by have:=r.un; omega
def tNil:TA:=fun _ H Q=>Q [] H
def tCons (ta:TE) (tr:TA):TA:=fun σ H Q=>ta σ H fun x H1=>tr σ H1 fun xs H2=>Q (x :: xs) H2
section
variable {X:Cx} {e:Expr} {es:List Expr} {te:TE} {t:TA} {pos:Pos}
theorem pa_nil:PA X [] tNil:=fun _ _ _ _ H Q I h=>Calls.spliced_nil ⟨[],H,I,.nil,h⟩
theorem pa_cons (ha:PE X e te) (hr:PA X es t) (hs:starEach (e :: es) X.env=(false,eval e X.env) :: starEach es X.env:=by rfl):PA X (e :: es) (tCons te t):=by
  intro pos pins s σ H Q I h
  rw [hs]
  show wpAny _ _ (spliced ((false,eval e X.env) :: backTo pos (starEach es X.env))) _ _ s
  refine Calls.spliced_cons (thn (ha pins s σ H _ I h) fun u s1 ⟨x,H1,I1,r1,q1⟩=>?_)
  exact thn (hr pos pins s1 σ H1 _ I1 q1) fun us s2 ⟨xs,H2,I2,r2,q2⟩=>⟨x :: xs,H2,I2,.cons r1 r2,q2⟩
def tTup (t:TA):TE:=fun σ H Q=>t σ H fun xs H1=>xs.length≤sizeLine∧∀ p,H1 p=none→Q (.ref p) (upd H1 p (.tup xs))
def tLst (t:TA):TE:=fun σ H Q=>t σ H fun xs H1=>xs.length≤sizeLine∧∀ p,H1 p=none→Q (.ref p) (upd H1 p (.lst xs))
theorem pe_tup {x1} (h:PA X es t):PE X (.Tuple es x1 pos) (tTup t):=by
  intro pins s σ H Q I hq
  refine wpAny_Tuple_spliced (thn (h pos pins s σ H _ I hq) fun us s1 ⟨xs,H1,I1,r,z,q⟩=>⟨by rw [← r.length]; exact z,?_⟩)
  have hf:H1 s1.heap.objs.size=none:=I1.hok.fresh (Nat.le_refl _)
  refine ⟨.ref s1.heap.objs.size,upd H1 s1.heap.objs.size (.tup xs),I1.laid (t':=s1.toks) (fun b u e=>Heap.get?_push_of_some _ e) (Nat.le_refl _) ?_,rfl,q _ hf⟩
  exact ⟨z,us,r,⟨_,Heap.get?_push_size _ rfl,rfl,_,rfl⟩⟩
theorem pe_lst (h:PA X es t):PE X (.List es pos) (tLst t):=by
  intro pins s σ H Q I hq
  refine wpAny_List_spliced (thn (h pos pins s σ H _ I hq) fun us s1 ⟨xs,H1,I1,r,z,q⟩=>⟨by rw [← r.length]; exact z,?_⟩)
  have hf:H1 s1.heap.objs.size=none:=I1.hok.fresh (Nat.le_refl _)
  refine ⟨.ref s1.heap.objs.size,upd H1 s1.heap.objs.size (.lst xs),I1.laid (t':=s1.toks) (fun b u e=>Heap.get?_push_of_some _ e) (Nat.le_refl _) ?_,rfl,q _ hf⟩
  exact ⟨z,us,0,r,Heap.get?_push_size _ rfl⟩
end
abbrev Sp:=List V→Hp→VK→XK→Prop
abbrev CXT:=List Env→Hp→Shared→XK→Value→Shared→Prop
structure Env0 (P:Program) (w:World) (K:PySem.W.Frag) (mg:Str→Option Value) (base:Heap) (A:Around) (outer:List Env) (s:Shared) (H:Hp):Prop where
  frames:A.frames=some outer
  mod:Mod K mg base
  bs:∀ b o,base.get? b=some o→s.heap.get? b=some o∧H b=none
  bsz:base.objs.size≤s.heap.objs.size
  funs:s.heap.FunFrames base outer
  frf:∀ b∈frs outer,H b=none
  hok:HOk P w H s.heap
  bare:AllBare s.gens
def CE (outer:List Env) (P:Program) (w:World) (H:Hp) (s:Shared) (Q:VK) (u:Value) (s':Shared):Prop :=
  ∃ v H',s'.os=s.os∧AllBare s'.gens∧Un (frs outer) [] H H' s.heap s'.heap∧HOk P w H' s'.heap∧RelV v u∧Q v H'
def CR (CX:CXT) (outer:List Env) (P:Program) (w:World) (H:Hp) (s:Shared) (Q:VK) (E:XK) (r:Result) (s':Shared):Prop :=
  match r with
  | .ok (.ret u)=>CE outer P w H s Q u s'
  | .ok _=>False
  | .error e=>CX outer H s E e s'
structure FnOk (P:Program) (w:World) (K:PySem.W.Frag) (mg:Str→Option Value) (base:Heap) (CX:CXT) (k:Nat) (f:Addr) (fd:FuncData) (ps:List Str) (sp:Sp):Prop where
  len:∀ vs H Q E,sp vs H Q E→vs.length=ps.length
  run:∀ (A:Around) (outer:List Env) (s:Shared) (H:Hp) (args:Args) (us:List Value) (vs:List V) (Q:VK) (E:XK),Room k A→Env0 P w K mg base A outer s H→BindsTo s fd args (ps.zip us)→Vals vs us→sp vs H Q E →
    codeAny (model P w) A (.call (.ref f) args) (CR CX outer P w H s Q E) s
theorem Env0.make {P:Program} {w:World} {K:PySem.W.Frag} {mg:Str→Option Value} {base:Heap} {A:Around} {outer:List Env} {s:Shared} {H:Hp} (e:Env0 P w K mg base A outer s H) (C:Addr) (us:List Value) (kw:List (Str×Value)) :
    Env0 P w K mg base (A.under (.builtin "type.__call__" ⟨.ref C :: us,kw⟩)) outer s H:=⟨by first | exact e.frames | (simpa [Around.under,Code.envs,Code.isFrame,pushEnvs] using e.frames),e.mod,e.bs,e.bsz,e.funs,e.frf,e.hok,e.bare⟩
section
variable {X:Cx} {pins:List (Addr×Obj)} {σ:St} {H:Hp} {s s':Shared}
theorem Inv.env0 (I:Inv X pins σ H s):Env0 X.prog X.w X.K X.mg X.base X.A X.stack s H :=
  ⟨I.ok.frames,I.ok.mod,I.bs,Nat.le_trans I.ok.bsz I.sz,I.stack,I.stkFree,I.hok,I.bare⟩
theorem Inv.after {Q:VK} {u:Value} (I:Inv X pins σ H s) (h:CE X.stack X.prog X.w H s Q u s'):EP X pins σ Q u s':=by
  obtain ⟨v,H',os,bare,un,hok,r,q⟩:=h
  obtain ⟨hh,g,d,t,os'⟩:=s'
  obtain rfl:os'=s.os:=os
  exact ⟨v,H',I.call (h':=hh) (g':=g) (d':=d) (t':=t) (ch:=[]) un hok bare (fun b z=>absurd z (by simp)),r,q⟩
end
def tCall (sp:Sp) (dvs:List V) (E:XK) (t:TA):TE:=fun σ H Q=>t σ H fun vs H1=>sp (vs++dvs) H1 Q E
def Binds (K:PySem.W.Frag) (fd:FuncData) (ps:List Str) (ds:List Value):Prop :=
  ∀ (s:Shared) (us:List Value),K.In s.heap→(us++ds).length=ps.length→BindsTo s fd ⟨us,[]⟩ (ps.zip (us++ds))
theorem Binds.all {K:PySem.W.Frag} {fd:FuncData} {ps:List Str} (h:∀ us:List Value,us.length=ps.length→bindArgs fd ⟨us,[]⟩ = pure (ps.zip us)):Binds K fd ps []:=fun s us _ hl=>by
  rw [List.append_nil] at hl ⊢
  exact .of_eq (h us hl)
section
variable {X:Cx} {CX:CXT} {k:Nat} {f C:Addr} {fd:FuncData} {ps:List Str} {sp:Sp} {dvs:List V} {ds:List Value} {E:XK} {x m:Str} {p pos apos:Pos} {e o:Expr} {es:List Expr} {ta:TE} {t:TA}
structure Mk (K:PySem.W.Frag) (C f:Addr):Prop where
  makes:PySem.W.makesIn K C=true
  init:PySem.W.findIn K (.ref C) "__init__" = some (some (.ref f))
  fn:PySem.W.isFn K (.ref f)=true
  kp:PySem.W.keepIn K (.ref C)=true
end
section
variable {X:Cx} {CX:CXT} {k:Nat} {f C:Addr} {fd:FuncData} {ps ks:List Str} {sp:Sp} {E:XK} {x m:Str} {p pos apos kpos:Pos} {e o:Expr} {es:List Expr} {kws:List Keyword} {te ta:TE} {t tk:TA} {nm:Option Str}
variable {g:List Value→List Value→List Value} {gV:List V→List V→List V}
end
structure FnScope (N P:List Str) (sc:Scope):Prop where
  kind:sc.kind = .function
  co:sc.isCoroutine=false
  gen:sc.isGenerator=false
  nd:N.Nodup
  pre:N.take P.length=P
  par:∀ x∈P,sc.names.lookup x=some .local∨sc.names.lookup x=some .cell
  nofree:∀ y∈sc.names,y.2≠.free
theorem bindL_out {kindOf:Str→Option NameKind} {x:Str}:∀ {binds:List (Str×Value)} {m:Str→Option Value},(∀ v,(x,v) ∉ binds)→bindL kindOf binds m x=m x
  | [],_,_=>rfl
  | (n,v) :: r,m,h=>by
    unfold bindL
    rw [bindL_out fun w hw=>h w (List.mem_cons_of_mem _ hw)]
    split
    · have:x≠n:=by rintro rfl; exact h v List.mem_cons_self
      simp [this]
    · rfl
theorem bindC_out {kindOf:Str→Option NameKind} {x:Str}:∀ {binds:List (Str×Value)} {m:Str→Option Value},(∀ v,(x,v) ∉ binds)→bindC kindOf binds m x=m x
  | [],_,_=>rfl
  | (n,v) :: r,m,h=>by
    unfold bindC
    rw [bindC_out fun w hw=>h w (List.mem_cons_of_mem _ hw)]
    split
    · rfl
    · have:x≠n:=by rintro rfl; exact h v List.mem_cons_self
      simp [this]
theorem bindL_get {kindOf:Str→Option NameKind} {x:Str} {v:Value}:∀ {P:List Str} {vs:List Value} {i:Nat} {m:Str→Option Value},P.Nodup→P[i]? = some x→vs[i]? = some v→kindOf x=some .local →
    bindL kindOf (P.zip vs) m x=some v
  | [],_,_,_,_,h,_,_=>by simp at h
  | _ :: _,[],_,_,_,_,h,_=>by simp at h
  | p :: P,w :: vs,0,m,nd,h1,h2,hk=>by
    simp at h1 h2; subst h1; subst h2
    show bindL kindOf ((p,w) :: P.zip vs) m p = _
    unfold bindL
    rw [bindL_out fun v hv=>(List.nodup_cons.mp nd).1 (List.of_mem_zip hv).1,if_pos hk]
    simp
  | p :: P,w :: vs,i+1,m,nd,h1,h2,hk=>by
    show bindL kindOf ((p,w) :: P.zip vs) m x = _
    unfold bindL
    exact bindL_get (i:=i) (List.nodup_cons.mp nd).2 (by simpa using h1) (by simpa using h2) hk
theorem bindC_get {kindOf:Str→Option NameKind} {x:Str} {v:Value}:∀ {P:List Str} {vs:List Value} {i:Nat} {m:Str→Option Value},P.Nodup→P[i]? = some x→vs[i]? = some v→kindOf x≠some .local →
    bindC kindOf (P.zip vs) m x=some v
  | [],_,_,_,_,h,_,_=>by simp at h
  | _ :: _,[],_,_,_,_,h,_=>by simp at h
  | p :: P,w :: vs,0,m,nd,h1,h2,hk=>by
    simp at h1 h2; subst h1; subst h2
    show bindC kindOf ((p,w) :: P.zip vs) m p = _
    unfold bindC
    rw [bindC_out fun v hv=>(List.nodup_cons.mp nd).1 (List.of_mem_zip hv).1,if_neg hk]
    simp
  | p :: P,w :: vs,i+1,m,nd,h1,h2,hk=>by
    show bindC kindOf ((p,w) :: P.zip vs) m x = _
    unfold bindC
    exact bindC_get (i:=i) (List.nodup_cons.mp nd).2 (by simpa using h1) (by simpa using h2) hk
def start (N:List Str) (vs:List V):St:=vs.map some++List.replicate (N.length-vs.length) none
def cxOf (CX:CXT) (P:Program) (w:World) (K:PySem.W.Frag) (mg:Str→Option Value) (base:Heap) (N:List Str) (qual:Str) (scope:Scope) (f:Addr) (cd:Value) (A:Around) (outer:List Env) (s:Shared) (H:Hp) (E:XK):Cx where
  prog:=P
  w:=w
  K:=K
  mg:=mg
  base:=base
  A:=A.deeper (envOfC qual scope s.heap.objs.size f cd)
  N:=N
  s₀:=s
  H₀:=H
  env:=envOfC qual scope s.heap.objs.size f cd
  outer:=outer
  stack:=envOfC qual scope s.heap.objs.size f cd :: outer
  ex:=[]
  calm:=true
  fn:=fun _=>true
  pn:=[]
  xe:=fun e s'=>wpAny (model P w) (A.deeper (envOfC qual scope s.heap.objs.size f cd)) (leaving (envOfC qual scope s.heap.objs.size f cd) e) (fun _ s''=>CX outer H s E e s'') (fun e' s''=>CX outer H s E e' s'') s'
theorem cell_has {sc:Scope} {n:Nat} {x:Str} (h:sc.names.lookup x=some .cell):∃ c,(cellsFrom n sc.names []).lookup x=some c:=by
  have q:=PySem.W.cellsFrom_some sc.names n [] (.inl h)
  exact Option.isSome_iff_exists.mp q
theorem inv_start {CX:CXT} {P:Program} {w:World} {K:PySem.W.Frag} {mg:Str→Option Value} {base:Heap} {N ps:List Str} {qual:Str} {scope:Scope} {f:Addr} {cd:Value} {A:Around} {outer:List Env} {s s1:Shared} {H:Hp} {E:XK} {us:List Value} {vs:List V}
    (S:FnScope N ps scope) (hd:A.handled=none) (e0:Env0 P w K mg base A outer s H) (hl:vs.length=ps.length) (r:Vals vs us)
    (x:InCallC s s.heap.objs.size (bindL (envOfC qual scope s.heap.objs.size f cd).kindOf (ps.zip us) fun _=>none) (cellsFrom (s.heap.objs.size+1) scope.names []) (bindC (envOfC qual scope s.heap.objs.size f cd).kindOf (ps.zip us) fun _=>none) s1) :
    Inv (cxOf CX P w K mg base N qual scope f cd A outer s H E) [] (start N vs) H s1:=by
  have hpl:ps.length≤N.length:=by have:=congrArg List.length S.pre; rw [List.length_take] at this; omega
  obtain ⟨h1,tk,rfl,hk⟩:=x.done
  have noA:∀ b:Addr,b ∉ (cxOf CX P w K mg base N qual scope f cd A outer s H E).ex:=fun b z=>absurd (show b∈([]:List Addr) from z) (by simp)
  refine ⟨⟨e0.mod,S.kind,rfl,rfl,Nat.le_refl _,fun y z c h1 h2=>?_,fun y hy=>?_,fun y c _ h=>?_,fun _=>hd,Around.frames_deeper e0.frames,.inr ⟨rfl,rfl⟩,fun b z=>absurd z (noA b),e0.bs,e0.bsz,fun b _ _=>noA b,fun b z=>absurd z (noA b),e0.funs,e0.frf⟩,
    rfl,e0.bare,Un.kept hk,⟨_,x.toInCall.ns,fun i y v h1 h2 h3=>?_⟩,fun y c h=>⟨_,x.cell y c h⟩,e0.hok.fresh (Nat.le_refl _),fun y c h=>?_,fun p hp=>absurd (show p∈([]:List (Addr×Obj)) from hp) (by simp),e0.hok.kept hk,?_⟩
  · exact name_of_addr x.apart (PySem.mem_of_lookup h1) (PySem.mem_of_lookup h2)
  · have hy:scope.names.lookup y=some .cell∨scope.names.lookup y=some .free:=hy
    rcases hy with hy | hy
    · exact cell_has hy
    · exact absurd rfl (S.nofree _ (PySem.mem_of_lookup hy))
  · exact Nat.le_of_lt (x.above y c (PySem.mem_of_lookup h))
  · have hi:i<vs.length:=by
      unfold start at h2
      by_cases hi:i<vs.length
      · exact hi
      · rw [List.getElem?_append_right (by simpa using hi)] at h2
        rw [List.getElem?_replicate] at h2
        split at h2 <;> cases h2
    have ha:vs[i]? = some v:=by
      unfold start at h2
      rw [List.getElem?_append_left (by simpa using hi),List.getElem?_map] at h2
      cases e:vs[i]? with
      | none=>rw [e] at h2; cases h2
      | some a=>rw [e] at h2; cases h2; rfl
    obtain ⟨u,hu,rv⟩:=r.get ha
    have hp:ps[i]? = some y:=by
      rw [← S.pre,List.getElem?_take_of_lt (by omega)]; exact h1
    have ndP:ps.Nodup:=by rw [← S.pre]; exact S.nd.sublist (List.take_sublist _ _)
    refine ⟨u,rv,?_⟩
    rcases S.par y (List.mem_of_getElem? hp) with k | k
    · exact .inl ⟨k,bindL_get ndP hp hu k⟩
    · obtain ⟨c,e⟩:=cell_has (n:=s.heap.objs.size+1) k
      refine .inr ⟨.inl k,c,e,?_⟩
      have q:=x.cell y c e
      rw [bindC_get ndP hp hu (by show scope.names.lookup y≠_; rw [k]; decide)] at q
      exact q
  · exact e0.hok.fresh (Nat.le_of_lt (x.above y c (PySem.mem_of_lookup h)))
  · unfold start
    show _=N.length
    rw [List.length_append,List.length_map,List.length_replicate]
    omega
theorem fn_of {CX:CXT} {P:Program} {w:World} {K:PySem.W.Frag} {mg:Str→Option Value} {base:Heap} {k:Nat} {f:Addr} {name qual:Str} {params:Arguments} {body:List Stmt} {scope:Scope} {dV kV doc pm cdv ct oc:Value} {an od:Option Addr}
    {osl:Array (Option Value)} {N ps:List Str} {sp:Sp} (lk:K.lookup f=some ⟨oc,od,.func (PySem.W.fnOf name qual params body scope dV kV doc pm an cdv ct),osl⟩) (hcd:PySem.W.codeIn K cdv qual=true) (S:FnScope N ps scope)
    (len:∀ vs H Q E,sp vs H Q E→vs.length=ps.length)
    (hbody:∀ (A:Around) (outer:List Env) (s:Shared) (H:Hp) (vs:List V) (Q:VK) (E:XK),Room k (A.deeper (envOfC qual scope s.heap.objs.size f cdv))→sp vs H Q E →
      ∃ t,PSs (cxOf CX P w K mg base N qual scope f cdv A outer s H E) body t∧t { nx:=fun _ H'=>Q .non H',rt:=Q } (start N vs) H) :
    FnOk P w K mg base CX (k+1) f (PySem.W.fnOf name qual params body scope dV kV doc pm an cdv ct) ps sp:=by
  refine ⟨len,fun A outer s H args us vs Q E hr e0 hb r hsp=>?_⟩
  have hl:=len _ _ _ _ hsp
  have KX:K.In s.heap:=e0.mod.kin.keeps fun b o e=>(e0.bs b o e).1
  have lim:s.heap.NoLimit:=e0.mod.nolimit.keeps fun b o e=>(e0.bs b o e).1
  have hkind:∀ y∈ps.zip us,scope.names.lookup y.1=some .local∨(scope.names.lookup y.1=some .cell∧((cellsFrom (s.heap.objs.size+1) scope.names []).lookup y.1).isSome=true):=fun ⟨n,v⟩ hy=>by
    rcases S.par n (List.of_mem_zip hy).1 with q | q
    · exact .inl q
    · exact .inr ⟨q,PySem.W.cellsFrom_some _ _ _ (.inl q)⟩
  refine codeAny_call_function hr.depth (KX _ _ lk) rfl S.co S.gen rfl (PySem.W.codeRec_of KX hcd) (hb _ _ _ _ ?_)
  refine wpAny_newFunctionEnv_cells S.kind hkind fun env he s1 x=>?_
  subst he
  refine ⟨lim.keeps x.toInCall.keep,codeAny_func ?_⟩
  obtain ⟨t,ht,hq⟩:=hbody A outer s H vs Q E (hr.deeper _) hsp
  have I:Inv (cxOf CX P w K mg base N qual scope f cdv A outer s H E) [] (start N vs) H s1:=inv_start S hr.hd e0 hl r x
  refine wpAny_mono (ht [] s1 (start N vs) H _ I hq) (fun fl s' hs=>?_) fun e s' hs=>hs
  have fin:∀ {σ':St} {H':Hp} {v:V} {u:Value},Inv (cxOf CX P w K mg base N qual scope f cdv A outer s H E) [] σ' H' s'→RelV v u→Q v H'→CE outer P w H s Q u s' :=
    fun {σ' H' v u} J rv q=>⟨v,H',J.os,J.bare,J.base,J.hok,rv,q⟩
  cases fl with
  | ret u =>
    obtain ⟨v,σ',H',J,rv,q⟩:=hs
    exact fin J rv q
  | next =>
    obtain ⟨σ',H',J,q⟩:=hs
    exact fin (v:=V.non) (u:=Value.none) J rfl q
  | brk =>
    obtain ⟨_,_,_,q⟩:=hs
    exact False.elim q
  | cont =>
    obtain ⟨_,_,_,q⟩:=hs
    exact False.elim q
end L2
namespace L2
open PySem PySem.Spec PyProof.Rows
section
variable {X:Cx} {x:Str} {p pos:Pos} {e:Expr} {es:List Expr} {t:TA} {id T:String} {r:List V→Hp→VK→Prop}
def tCB (r:List V→Hp→VK→Prop) (t:TA):TE:=fun σ H Q=>t σ H fun vs H1=>r vs H1 Q
theorem pe_callB (hc:CallR X (.builtin id) r) (hg:Gl X x) (hm:X.mg x=none) (hv:bootBuiltins x=some (.builtin id)) (ha:PA X (e :: es) t) (hn:x ≠ "__name__" := by decide) (hdb:(x == ("__debug__" : Str))=false:=by decide)
    (he:starEach (e :: es) X.env=(false,eval e X.env) :: starEach es X.env:=by rfl) (hpl:(backTo pos (starEach es X.env)).any (·.1)=false:=by rfl):PE X (.Call (.Name x p) (e :: es) [] pos) (tCB r t):=by
  intro pins s σ H Q I h
  refine wpAny_Call_Name_kw (ld_blt I hg hm hv ?_ hn hdb)
  exact PyProof.Rows.callWith_builtin1 (thn (ha pos pins s σ H _ I h) fun us s1 ⟨vs,H1,I1,r1,q1⟩=>hc pins s1 σ H1 vs us Q I1 r1 q1) he hpl
theorem pe_callTy (hc:CallR X (.type T) r) (hg:Gl X x) (hm:X.mg x=none) (hv:bootBuiltins x=some (.type T)) (ha:PA X (e :: es) t) (hn:x ≠ "__name__" := by decide) (hdb:(x == ("__debug__" : Str))=false:=by decide)
    (he:starEach (e :: es) X.env=(false,eval e X.env) :: starEach es X.env:=by rfl) (hpl:(backTo pos (starEach es X.env)).any (·.1)=false:=by rfl):PE X (.Call (.Name x p) (e :: es) [] pos) (tCB r t):=by
  intro pins s σ H Q I h
  refine wpAny_Call_Name_kw (ld_blt I hg hm hv ?_ hn hdb)
  exact PyProof.Rows.callWith_type1 (thn (ha pos pins s σ H _ I h) fun us s1 ⟨vs,H1,I1,r1,q1⟩=>hc pins s1 σ H1 vs us Q I1 r1 q1) he hpl
end
end L2
namespace HT
open PySem PyProof.Rows
section
open PySem.SeqAt
open PySem.AutoSeq1 (wpAny_loadPart')
open PySem.MeetsSeq PySem.MeetsSeq2 PySem.MeetsSeq3
end
section
variable {prog:Program} {w:World} {A:Around} {E:Value→Shared→Prop} {s:Shared}
def sIx (n d:Nat):Option Int→Nat
  | none=>d
  | some v=>if v<0 then (v+(n:Int)).toNat else min v.toNat n
theorem sIx_nat (n d k:Nat):sIx n d (some (k:Int))=min k n:=by
  show (if (k:Int)<0 then ((k:Int)+(n:Int)).toNat else min (k:Int).toNat n)=min k n
  rw [if_neg (by omega),Int.toNat_natCast]
end
end HT
namespace L2
open PySem PySem.Spec PyProof.Rows
abbrev TO:=St→Hp→(Option Int→Hp→Prop)→Prop
def PO (X:Cx) (e:Option Expr) (t:TO):Prop :=
  ∀ (pins:List (Addr×Obj)) (s:Shared) (σ:St) (H:Hp) (Q:Option Int→Hp→Prop),Inv X pins σ H s→t σ H Q →
    wpAny (model X.prog X.w) X.A (evalPart e X.env) (fun u s'=>∃ o H',Inv X pins σ H' s'∧IsPart u o∧Q o H') X.xe s
def tNoPart:TO:=fun _ H Q=>Q none H
def tPart (t:TE):TO:=fun σ H Q=>t σ H fun x H1=>∃ i,x = .int i∧Q (some i) H1
theorem intsAre_of {ns:List Int}:∀ {us:List Value},Vals (ns.map V.int) us→IntsAre us ns:=by
  induction ns with
  | nil=>intro us r; rw [List.map_nil] at r; cases r; exact .nil
  | cons n ns ih =>
    intro us r
    rw [List.map_cons] at r
    cases r with
    | cons r1 r2 =>
      obtain ⟨t,e⟩:=r1
      subst e
      exact .cons n t (ih r2)
section
variable {X:Cx} {e:Expr} {te:TE} {lo hi:Option Expr} {tl th:TO} {pos p2:Pos}
theorem po_some (h:PE X e te):PO X (some e) (tPart te):=by
  intro pins s σ H Q I hw
  rw [evalPart_some]
  refine thn (h pins s σ H _ I hw) fun u s1 ⟨x,H1,I1,r1,q1⟩=>?_
  obtain ⟨i,rfl,q⟩:=q1
  obtain ⟨t,rfl⟩:=r1
  exact ⟨some i,H1,I1,.int i t,q⟩
def SlR (X:Cx) (r:V→Option Int→Option Int→Hp→VK→Prop):Prop :=
  ∀ (pins:List (Addr×Obj)) (s:Shared) (σ:St) (H:Hp) (x:V) (v vl vu:Value) (lo hi:Option Int) (sl:Addr) (Q:VK),Inv X pins σ H s→RelV x v→s.heap.IsSliceOf sl vl vu .none→IsPart vl lo→IsPart vu hi→r x lo hi H Q →
    ∃ T id,typeLookup (.type T) "__getitem__" = pure (some (.builtin id))∧s.TypeIs v T∧wpAny (model X.prog X.w) X.A (getItem v (.ref sl)) (EP X pins σ Q) X.xe s
def tSl (r:V→Option Int→Option Int→Hp→VK→Prop) (te:TE) (tl th:TO):TE:=fun σ H Q=>te σ H fun x H1=>tl σ H1 fun l H2=>th σ H2 fun u H3=>r x l u H3 Q
theorem pe_slice {r:V→Option Int→Option Int→Hp→VK→Prop} (hr:SlR X r) (he:PE X e te) (hl:PO X lo tl) (hu:PO X hi th):PE X (.Subscript e (.Slice lo hi none p2) pos) (tSl r te tl th):=by
  intro pins s σ H Q I h
  refine Subscript_ (thn (he pins s σ H _ I h) fun v s1 ⟨x,H1,I1,r1,q1⟩=>?_)
  refine wpAny_Slice (thn (hl pins s1 σ H1 _ I1 q1) fun vl s2 ⟨l,H2,I2,pl,q2⟩=>thn (hu pins s2 σ H2 _ I2 q2) fun vu s3 ⟨u,H3,I3,pu,q3⟩=>?_)
  rw [evalPart_none]
  refine wpAny_pure ?_
  have I4:Inv X pins σ H3 { s3 with heap:=s3.heap.push { cls:=.type "slice", data:=.fields #[vl,vu,.none] } }:=I3.kept (t':=s3.toks) fun b ob q=>Heap.get?_push_of_some _ q
  obtain ⟨T,id,hT,ht,hg⟩:=hr pins { s3 with heap:=s3.heap.push { cls:=.type "slice", data:=.fields #[vl,vu,.none] } } σ H3 x v vl vu l u s3.heap.objs.size Q I4 r1 (Heap.IsSliceOf.new ..) pl pu q3
  show wpAny (model X.prog X.w) X.A (subscriptTail e (.Slice lo hi none p2) v (.ref s3.heap.objs.size)) (EP X pins σ Q) X.xe { s3 with heap:=s3.heap.push { cls:=.type "slice", data:=.fields #[vl,vu,.none] } }
  exact tail_any (ops:=[.ref s3.heap.objs.size,v]) ht hT hg (by with_unfolding_all rfl)
def cutV (xs:List V) (lo hi:Option Int):List V:=(xs.drop (HT.sIx xs.length 0 lo)).take (HT.sIx xs.length xs.length hi-HT.sIx xs.length 0 lo)
theorem cutV_length (xs:List V) (lo hi:Option Int):(cutV xs lo hi).length≤xs.length:=by
  unfold cutV
  rw [List.length_take,List.length_drop]
  omega
end
end L2
namespace L2
open PySem PySem.Spec PyProof.Rows
def ixN (n:Nat) (i:Int):Option Nat:=if 0≤i then (if i<n then some i.toNat else none) else if -(n:Int)≤i then some (i+n).toNat else none
def atI {α:Type} (xs:List α) (i:Int):Option α:=(ixN xs.length i).bind fun j=>xs[j]?
theorem ixN_seq {n:Nat} {i:Int} {j:Nat} (h:ixN n i=some j):seqIndex? i n=some j∧j<n∧-(n:Int)≤i∧i<n:=by
  unfold ixN at h
  by_cases h0:0≤i
  · rw [if_pos h0] at h
    by_cases h1:i<n
    · rw [if_pos h1] at h
      have e:i.toNat=j:=Option.some.inj h
      exact ⟨by rw [seqIndex_of h0 h1,e],by omega,by omega,h1⟩
    · rw [if_neg h1] at h; cases h
  · rw [if_neg h0] at h
    by_cases h1:-(n:Int)≤i
    · rw [if_pos h1] at h
      have e:(i+n).toNat=j:=Option.some.inj h
      exact ⟨by rw [seqIndex_neg (by omega) h1,e],by omega,h1,by omega⟩
    · rw [if_neg h1] at h; cases h
theorem atI_get {α:Type} {xs:List α} {i:Int} {v:α} (h:atI xs i=some v):∃ j,seqIndex? i xs.length=some j∧xs[j]? = some v∧j<xs.length∧-(xs.length:Int)≤i∧i<xs.length:=by
  unfold atI at h
  cases e:ixN xs.length i with
  | none=>rw [e] at h; cases h
  | some j =>
    rw [e] at h
    obtain ⟨h1,h2,h3,h4⟩:=ixN_seq e
    exact ⟨j,h1,h,h2,h3,h4⟩
theorem atI_nat {α:Type} {xs:List α} {j:Nat} {v:α} (h:xs[j]? = some v):atI xs (j:Int)=some v:=by
  have hj:j<xs.length:=(List.getElem?_eq_some_iff.mp h).1
  have e:ixN xs.length (j:Int)=some j:=by
    unfold ixN
    rw [if_pos (by omega),if_pos (by omega)]; simp
  unfold atI; rw [e]; exact h
def PlainIx (b:Expr):Prop:=∀ o i,subscripted b false o i=operate [o,i] (getItem o i)
def IxR (X:Cx) (r:R2):Prop :=
  ∀ (value slice:Expr) (pins:List (Addr×Obj)) (s:Shared) (σ:St) (H:Hp) (x y:V) (v u:Value) (Q:VK),Inv X pins σ H s→RelV x v→RelV y u→r x y H Q →
    subscripted slice false v u=operate [v,u] (getItem v u)→wpAny (model X.prog X.w) X.A (subscriptTail value slice v u) (EP X pins σ Q) X.xe s
def MtR (X:Cx) (id:String) (r:V→List V→Hp→VK→Prop):Prop :=
  ∀ (pins:List (Addr×Obj)) (s:Shared) (σ:St) (H:Hp) (x:V) (xs:List V) (v:Value) (us:List Value) (Q:VK),Inv X pins σ H s→RelV x v→Vals xs us→r x xs H Q →
    wpAny (model X.prog X.w) X.A (call (.builtin id) (v :: us)) (EP X pins σ Q) X.xe s
section
variable {X:Cx} {a b:Expr} {ta tb:TE} {pos:Pos}
theorem pe_ix {r:R2} (hr:IxR X r) (ha:PE X a ta) (hb:PE X b tb) (hs:PlainIx b):PE X (.Subscript a b pos) (tOp r ta tb):=by
  intro pins s σ H Q I h
  exact Subscript_ (binT ha hb I h fun v u s2 x y H2 I2 rx ry q=>hr a b pins s2 σ H2 x y v u Q I2 rx ry q (hs _ _))
def rIxL (K:PySem.W.Frag):R2:=fun x y H Q=>∃ p xs i v,x = .ref p∧y = .int i∧SqL K H p xs∧atI xs i=some v∧Q v H
def rIxT (K:PySem.W.Frag):R2:=fun x y H Q=>∃ p xs i v,x = .ref p∧y = .int i∧SqT K H p xs∧atI xs i=some v∧Q v H
theorem ix_list:IxR X (rIxL X.K):=by
  intro value slice pins s σ H x y v u Q I rx ry h hs
  obtain ⟨p,xs,i,z,rfl,rfl,hq,he,q⟩:=h
  cases rx
  obtain ⟨t,rfl⟩:=ry
  obtain ⟨its,r,pl,hz⟩:=I.list hq
  obtain ⟨j,h1,h2,h3,h4,h5⟩:=atI_get he
  obtain ⟨w,ew,rw'⟩:=r.get h2
  have hl:=r.length
  have hn:=line63
  have fin:EP X pins σ Q w s:=⟨z,H,I,rw',q⟩
  by_cases h0:0≤i
  · have hj:i.toNat=j:=by
      rw [seqIndex_of h0 h5] at h1
      exact Option.some.inj h1
    exact item_listR pl.isList h0 (by omega) (by rw [hj]; simpa using ew) fin hs
  · have hj:(i+(its.toArray.size:Int)).toNat=j:=by
      rw [seqIndex_neg (by omega) h4] at h1
      rw [List.size_toArray,← hl]
      exact Option.some.inj h1
    exact subscriptTail_builtinR (x:=w) pl.isList.typeIs slot_list_getitem.lookup
      (wpAny_getItem_list_neg (Q:=fun r s'=>r=w∧EP X pins σ Q r s') pl.isList (by omega) (by rw [List.size_toArray] <;> omega) (by omega) (by rw [hj]; simpa using ew) ⟨rfl,fin⟩) hs
theorem ix_tup:IxR X (rIxT X.K):=by
  intro value slice pins s σ H x y v u Q I rx ry h hs
  obtain ⟨p,xs,i,z,rfl,rfl,hq,he,q⟩:=h
  cases rx
  obtain ⟨t,rfl⟩:=ry
  obtain ⟨its,r,pl,hz⟩:=I.tuple hq
  obtain ⟨j,h1,h2,h3,h4,h5⟩:=atI_get he
  obtain ⟨w,ew,rw'⟩:=r.get h2
  have hl:=r.length
  have hn:=line63
  have fin:EP X pins σ Q w s:=⟨z,H,I,rw',q⟩
  exact subscriptTail_builtinR (x:=w) pl.typeIs slot_tuple_getitem.lookup
    (getItem_tuple (j:=j) (Q:=fun r s'=>r=w∧EP X pins σ Q r s') pl (by omega) (by omega) (by rw [List.size_toArray,← hl]; exact h1) (by simpa using ew) ⟨rfl,fin⟩) hs
theorem mapSeq_set (its:List Value) (n j:Nat) (u:Value):Obj.mapSeq (·.setIfInBounds j u) { cls:=.type "list", data:=.seq its.toArray n } = { cls:=.type "list", data:=.seq (its.set j u).toArray n }:=by
  simp [Obj.mapSeq]
theorem Inv.lst {pins:List (Addr×Obj)} {σ:St} {H:Hp} {s:Shared} {p:Addr} {xs:List V} (I:Inv X pins σ H s) (h:H p=some (.lst xs)) :
    ∃ (its:List Value) (n:Nat),Vals xs its∧s.heap.get? p=some { cls:=.type "list", data:=.seq its.toArray n }∧xs.length≤sizeLine:=by
  obtain ⟨z,its,n,r,e⟩:=I.hok p _ h
  exact ⟨its,n,r,e,z⟩
theorem Inv.lstUpd {pins:List (Addr×Obj)} {σ:St} {H:Hp} {s:Shared} {p:Addr} {xs ys:List V} {its its':List Value} {n n':Nat} {f:Obj→Obj} (I:Inv X pins σ H s) (h:H p=some (.lst xs))
    (ho:s.heap.get? p=some { cls:=.type "list", data:=.seq its.toArray n }) (hf:f { cls:=.type "list", data:=.seq its.toArray n } = { cls:=.type "list", data:=.seq its'.toArray n' }) (r:Vals ys its') (hz:ys.length≤sizeLine) (t:Nat) :
    Inv X pins σ (upd H p (.lst ys)) { s with heap:=s.heap.update p f,toks:=t }:=by
  have e:(s.heap.update p f).get? p=some { cls:=.type "list", data:=.seq its'.toArray n' }:=by
    rw [Heap.get?_update_self f ho (by rw [hf] <;> rfl),hf]
  refine I.write (x:=p) (e:=p) (by rw [h]; trivial) (.inl rfl) (fun b u hb q=>(Heap.get?_update_other _ _ (Ne.symm hb)).trans q) ⟨_,e⟩ ?_
  exact ⟨hz,its',n',r,e⟩
def rSetL:V→V→V→Hp→(Hp→Prop)→Prop:=fun o i v H Q=>∃ p xs k j,o = .ref p∧i = .int k∧H p=some (.lst xs)∧ixN xs.length k=some j∧Q (upd H p (.lst (xs.set j v)))
theorem set_list:PSet X rSetL:=by
  intro pins s σ H o i v ov iv u Q I ro ri rv h
  obtain ⟨p,xs,k,j,rfl,rfl,hp,hj,q⟩:=h
  cases ro
  obtain ⟨t,rfl⟩:=ri
  obtain ⟨its,n,r,ho,hz⟩:=I.lst hp
  obtain ⟨h1,h2,h3,h4⟩:=ixN_seq hj
  have hl:=r.length
  have hn:=line63
  have I':Inv X pins σ (upd H p (.lst (xs.set j v))) { s with heap:=s.heap.update p (Obj.mapSeq (·.setIfInBounds j u)) } :=
    I.lstUpd hp ho (mapSeq_set its n j u) (r.set rv j) (by rw [List.length_set]; exact hz) s.toks
  by_cases h0:0≤k
  · have hk:k.toNat=j:=by
      rw [seqIndex_of h0 h4] at h1
      exact Option.some.inj h1
    exact PySem.W.ki_setAt ho h0 (by omega) (by rw [List.size_toArray,← hl]; exact h4) (by rw [hk]; exact ⟨_,I',q⟩)
  · have hk:(k+(its.toArray.size:Int)).toNat=j:=by
      rw [seqIndex_neg (by omega) h3] at h1
      rw [List.size_toArray,← hl]
      exact Option.some.inj h1
    exact PySem.W.ki_setBack ho (by omega) (by rw [List.size_toArray,← hl]; exact h3) (by omega) (by rw [hk]; exact ⟨_,I',q⟩)
theorem slice_bounds (lo hi:Option Int) (n:Nat):(sliceBounds lo hi none n).1=((HT.sIx n 0 lo:Nat):Int)∧(sliceBounds lo hi none n).2.1=((HT.sIx n n hi:Nat):Int)∧(sliceBounds lo hi none n).2.2 = 1:=by
  refine ⟨?_,?_,rfl⟩
  · cases lo with
    | none=>simp [sliceBounds,HT.sIx]
    | some i =>
      simp only [sliceBounds,HT.sIx,Option.getD_none,show (1:Int) > 0 by decide,if_true]
      by_cases h:i<0
      · simp only [h,if_true] <;> omega
      · simp only [h,if_false] <;> omega
  · cases hi with
    | none=>simp [sliceBounds,HT.sIx]
    | some i =>
      simp only [sliceBounds,HT.sIx,Option.getD_none,show (1:Int) > 0 by decide,if_true]
      by_cases h:i<0
      · simp only [h,if_true] <;> omega
      · simp only [h,if_false] <;> omega
theorem slicePick_cut (its:List Value) (lo hi:Option Int):slicePick its.toArray lo hi none=((its.drop (HT.sIx its.length 0 lo)).take (HT.sIx its.length its.length hi-HT.sIx its.length 0 lo)).toArray:=by
  obtain ⟨h1,h2,h3⟩:=slice_bounds lo hi its.toArray.size
  unfold slicePick
  rw [h1,h2,h3]
  simp only [sliceRange_one,pick_run,List.size_toArray] <;> rfl
def rSlL (K:PySem.W.Frag):V→Option Int→Option Int→Hp→VK→Prop:=fun x lo hi H Q=>∃ a xs,x = .ref a∧SqL K H a xs∧∀ p,H p=none→Q (.ref p) (upd H p (.lst (cutV xs lo hi)))
theorem sl_list:SlR X (rSlL X.K):=by
  intro pins s σ H x v vl vu lo hi sl Q I rx hs pl pu h
  obtain ⟨a,xs,rfl,hx,q⟩:=h
  cases rx
  obtain ⟨its,r,ht,hz⟩:=I.list hx
  have hlen:=r.length
  refine ⟨"list", _,slot_list_getitem.lookup,ht.isList.typeIs,?_⟩
  refine wpAny_getItem_list_slice ht.isList hs pl pu .none (by simp) ?_ (by rw [List.size_toArray] <;> omega)
  rw [slicePick_cut,← hlen]
  refine ⟨.ref s.heap.objs.size,_,I.laid (t':=s.toks) (o:=.lst (cutV xs lo hi)) (fun b ob q=>Heap.get?_push_of_some _ q) (Nat.le_refl _) ?_,rfl,q _ (I.hok.fresh (Nat.le_refl _))⟩
  exact ⟨Nat.le_trans (cutV_length xs lo hi) hz,_,0,(r.drop (HT.sIx xs.length 0 lo)).take (HT.sIx xs.length xs.length hi-HT.sIx xs.length 0 lo),Heap.get?_push_size _ rfl⟩
def flatV:V→Bool
  | .non=>true
  | .bl _=>true
  | .int _=>true
  | .str _=>true
  | _=>false
def eqV:V→V→Bool
  | .non,.non=>true
  | .bl a,.bl b=>a == b
  | .bl a,.int b=>(if a then 1 else 0) == b
  | .int a,.bl b=>a == (if b then 1 else 0)
  | .int a,.int b=>a == b
  | .str a,.str b=>a == b
  | _,_=>false
theorem eqAt_V {A:Around} {s:Shared} {y x:V} {u v:Value} (ry:RelV y u) (rx:RelV x v) (fy:flatV y=true) (fx:flatV x=true):SeqAt.EqAt A s u v (eqV y x):=by
  cases y with
  | non =>
    cases ry
    cases x with
    | non=>cases rx; exact SeqAt.EqAt.same _
    | bl b=>cases rx; exact SeqAt.EqAt.none_bool b
    | int b=>obtain ⟨t,rfl⟩:=rx; exact SeqAt.EqAt.none_int b t
    | str b=>obtain ⟨t,rfl⟩:=rx; exact SeqAt.EqAt.none_str b t
    | _=>exact absurd (show false=true from fx) Bool.false_ne_true
  | bl a =>
    cases ry
    cases x with
    | non=>cases rx; exact SeqAt.EqAt.bool_none a
    | bl b=>cases rx; exact SeqAt.EqAt.bool_bool a b
    | int b=>obtain ⟨t,rfl⟩:=rx; exact SeqAt.EqAt.bool_int a b t
    | str b=>obtain ⟨t,rfl⟩:=rx; exact SeqAt.EqAt.bool_str a b t
    | _=>exact absurd (show false=true from fx) Bool.false_ne_true
  | int a =>
    obtain ⟨t',rfl⟩:=ry
    cases x with
    | non=>cases rx; exact SeqAt.EqAt.int_none a t'
    | bl b=>cases rx; exact SeqAt.EqAt.int_bool a t' b
    | int b=>obtain ⟨t,rfl⟩:=rx; exact SeqAt.EqAt.int_int a t' b t
    | str b=>obtain ⟨t,rfl⟩:=rx; exact SeqAt.EqAt.int_str a t' b t
    | _=>exact absurd (show false=true from fx) Bool.false_ne_true
  | str a =>
    obtain ⟨t',rfl⟩:=ry
    cases x with
    | non=>cases rx; exact SeqAt.EqAt.str_none a t'
    | bl b=>cases rx; exact SeqAt.EqAt.str_bool a t' b
    | int b=>obtain ⟨t,rfl⟩:=rx; exact SeqAt.EqAt.str_int a t' b t
    | str b=>obtain ⟨t,rfl⟩:=rx; exact SeqAt.EqAt.str_str a t' b t
    | _=>exact absurd (show false=true from fx) Bool.false_ne_true
  | _=>exact absurd (show false=true from fy) Bool.false_ne_true
def eqU (x:V) (u:Value):Bool:=match u with
  | .none=>eqV .non x
  | .bool b=>eqV (.bl b) x
  | .int i _=>eqV (.int i) x
  | .str z _=>eqV (.str z) x
  | _=>false
theorem eqU_of {x y:V} {u:Value} (r:RelV y u) (f:flatV y=true):eqU x u=eqV y x:=by
  cases y with
  | non=>cases r; rfl
  | bl b=>cases r; rfl
  | int i=>obtain ⟨t,rfl⟩:=r; rfl
  | str z=>obtain ⟨t,rfl⟩:=r; rfl
  | _=>exact absurd (show false=true from f) Bool.false_ne_true
theorem any_eqU {x:V}:∀ {xs:List V} {us:List Value},Vals xs us→xs.all flatV=true→us.any (eqU x)=xs.any fun y=>eqV y x
  | _,_,.nil,_=>rfl
  | y :: xs,u :: us,.cons r t,f=>by
    rw [List.all_cons,Bool.and_eq_true] at f
    rw [List.any_cons,List.any_cons,eqU_of r f.1,any_eqU t f.2]
theorem mem_eqAt {A:Around} {s:Shared} {x:V} {v:Value} (rx:RelV x v) (fx:flatV x=true):∀ {xs:List V} {us:List Value},Vals xs us→xs.all flatV=true→∀ u∈us,SeqAt.EqAt A s u v (eqU x u)
  | _,_,.nil,_=>fun u hu=>by cases hu
  | y :: xs,u :: us,.cons r t,f=>fun u' hu=>by
    rw [List.all_cons,Bool.and_eq_true] at f
    rcases List.mem_cons.mp hu with rfl | hu
    · rw [eqU_of r f.1]; exact eqAt_V r rx f.1 fx
    · exact mem_eqAt rx fx t f.2 u' hu
def inV (x:V) (xs:List V):Bool:=xs.any fun y=>eqV y x
def rIn (K:PySem.W.Frag) (neg:Bool):R2:=fun x y H Q=>∃ p xs,y = .ref p∧(SqL K H p xs∨SqT K H p xs)∧flatV x=true∧xs.all flatV=true∧Q (.bl (if neg then !inV x xs else inV x xs)) H
theorem op_notIn_seq:OpR X (compareOp .NotIn) (rIn X.K true):=by
  intro pins s σ H x y v u Q I rx ry h
  obtain ⟨p,xs,rfl,hq,fx,fs,q⟩:=h
  cases ry
  rcases hq with hq | hq
  · obtain ⟨its,r,pl,hz⟩:=I.list hq
    refine SeqAt.notIn_listAt (eqU x) pl.isList (fun w hw=>mem_eqAt rx fx r fs w (by simpa using hw)) ⟨.bl _,H,I,rfl,?_⟩
    rw [show its.toArray.any (eqU x)=its.any (eqU x) by simp,any_eqU r fs]
    exact q
  · obtain ⟨its,r,pl,hz⟩:=I.tuple hq
    refine SeqAt.notIn_tupleAt (eqU x) pl (fun w hw=>mem_eqAt rx fx r fs w (by simpa using hw)) ⟨.bl _,H,I,rfl,?_⟩
    rw [show its.toArray.any (eqU x)=its.any (eqU x) by simp,any_eqU r fs]
    exact q
theorem call_len_seq:CallR X (.builtin "len") (fun xs H Q=>∃ p ys,xs = [.ref p]∧(SqL X.K H p ys∨SqT X.K H p ys)∧Q (.int ys.length) H):=by
  intro pins s σ H xs us Q I r h
  obtain ⟨p,ys,rfl,hq,q⟩:=h
  obtain ⟨u,rfl,rx⟩:=vals1 r
  cases rx
  have hn:=line63
  rcases hq with hq | hq
  · obtain ⟨its,r',pl,hz⟩:=I.list hq
    have hlen:=r'.length
    exact Calls.call_len_list pl.isList (by simp only [List.size_toArray] <;> omega) ⟨.int ys.length,H,I.tok _,⟨s.toks+1,by rw [List.size_toArray,hlen]⟩,q⟩
  · obtain ⟨its,r',pl,hz⟩:=I.tuple hq
    have hlen:=r'.length
    exact len_tuple pl (by simp only [List.size_toArray] <;> omega) ⟨.int ys.length,H,I.tok _,⟨s.toks+1,by rw [List.size_toArray,hlen]⟩,q⟩
theorem call_list_of:CallR X (.type "list") (fun xs H Q=>∃ p ys,xs = [.ref p]∧(SqL X.K H p ys∨SqT X.K H p ys)∧∀ l,H l=none→Q (.ref l) (upd H l (.lst ys))):=by
  intro pins s σ H xs us Q I r h
  obtain ⟨p,ys,rfl,hq,q⟩:=h
  obtain ⟨u,rfl,rx⟩:=vals1 r
  cases rx
  have fin:∀ (its:List Value),Vals ys its→ys.length≤sizeLine→∀ (h':Heap) (c':Nat),(∀ b o',s.heap.get? b=some o'→h'.get? b=some o') →
      h'.get? s.heap.objs.size=some { cls:=.type "list", dict:=none,data:=.seq its.toArray c',slots:=#[] }→EP X pins σ Q (.ref s.heap.objs.size) { s with heap:=h' }:=fun its r' hz h' c' kp e =>
    ⟨.ref s.heap.objs.size,_,I.laid (t':=s.toks) kp (Nat.le_refl _) (show ObjOk X.prog X.w _ h' _ (.lst ys) from ⟨hz,its,c',r',e⟩),rfl,q _ (I.hok.fresh (Nat.le_refl _))⟩
  rcases hq with hq | hq
  · obtain ⟨its,r',pl,hz⟩:=I.list hq
    have hlen:=r'.length
    obtain ⟨o,ho,hc,n,hd⟩:=pl.isList
    exact call_list_seq p (.inl rfl) ho hc hd (fun h' c' kp e=>fin its r' hz h' c' kp e) (by simp only [List.size_toArray] <;> omega)
  · obtain ⟨its,r',pl,hz⟩:=I.tuple hq
    have hlen:=r'.length
    obtain ⟨o,ho,hc,n,hd⟩:=pl
    exact call_list_seq p (.inr rfl) ho hc hd (fun h' c' kp e=>fin its r' hz h' c' kp e) (by simp only [List.size_toArray] <;> omega)
def tyV (K:PySem.W.Frag) (T:String) (x:V) (H:Hp):Prop:=match x with
  | .str _=>T = "str"
  | .int _=>T = "int"
  | .ref p=>(T = "list" ∧ ∃ xs,SqL K H p xs)∨(T = "tuple" ∧ ∃ o,K.lookup p=some o∧o.cls = .type "tuple" ∧ o.dict=none) ∨
      (T = "dict" ∧ ((∃ kvs,H p=some (.dK kvs))∨∃ kvs,H p=some (.dT kvs)))∨(T = "set" ∧ ∃ S n,H p=some (.set S n))
  | _=>False
theorem tyV_is {pins:List (Addr×Obj)} {σ:St} {H:Hp} {s:Shared} {T:String} {x:V} {v:Value} (I:Inv X pins σ H s) (r:RelV x v) (ty:tyV X.K T x H) :
    s.TypeIs v T∧∀ a,v = .ref a→∃ ob,s.heap.get? a=some ob∧ob.dict=none:=by
  cases x with
  | str z =>
    obtain ⟨t,rfl⟩:=r
    cases (show T = "str" from ty)
    exact ⟨typeIs_str s z t,fun _ e=>nomatch e⟩
  | int i =>
    obtain ⟨t,rfl⟩:=r
    cases (show T = "int" from ty)
    exact ⟨typeIs_int s i t,fun _ e=>nomatch e⟩
  | ref p =>
    cases r
    rcases ty with ⟨rfl,xs,hq⟩ | ⟨rfl,o,hk,hc,hd⟩ | ⟨rfl,hk⟩ | ⟨rfl,S,n,hk⟩
    · obtain ⟨its,_,pl,_⟩:=I.list hq
      refine ⟨pl.isList.typeIs,fun a e=>?_⟩
      cases e
      obtain ⟨o,n,e,c,hd,_⟩:=pl
      exact ⟨o,e,hd⟩
    · refine ⟨⟨o,I.kIn p o hk,hc⟩,fun a e=>?_⟩
      cases e
      exact ⟨o,I.kIn _ o hk,hd⟩
    · have z:∃ o,s.heap.get? p=some o∧o.ExactDict:=by
        rcases hk with ⟨kvs,hk⟩ | ⟨kvs,hk⟩
        · obtain ⟨_,_,_,_,o,_,_,e,ex,_⟩:=I.hok p _ hk
          exact ⟨o,e,ex⟩
        · obtain ⟨_,_,_,_,o,_,_,e,ex,_⟩:=I.hok p _ hk
          exact ⟨o,e,ex⟩
      obtain ⟨o,e,ex⟩:=z
      refine ⟨⟨o,e,ex.1⟩,fun a e2=>?_⟩
      cases e2
      exact ⟨o,e,ex.2.1⟩
    · obtain ⟨o,_,_,_,e,ex,_⟩:=I.hok p _ hk
      refine ⟨⟨o,e,ex.1⟩,fun a e2=>?_⟩
      cases e2
      exact ⟨o,e,ex.2.1⟩
  | _=>exact False.elim ty
def tBM0 (K:PySem.W.Frag) (T:String) (r:V→List V→Hp→VK→Prop) (to:TE):TE:=fun σ H Q=>to σ H fun x H1=>tyV K T x H1∧r x [] H1 Q
def tBM (K:PySem.W.Frag) (T:String) (r:V→List V→Hp→VK→Prop) (to:TE) (t:TA):TE:=fun σ H Q=>to σ H fun x H1=>tyV K T x H1∧t σ H1 fun xs H2=>r x xs H2 Q
variable {o e:Expr} {es:List Expr} {to:TE} {t:TA} {name:Str} {apos cpos:Pos} {T id:String} {r:V→List V→Hp→VK→Prop}
theorem pe_bm (pa:PlainAttrs T) (slot:Slot T name id) (hty:typeOf (.builtin id)=pure (.type "method_descriptor")) (hm:MtR X id r) (ho:PE X o to) (ha:PA X (e :: es) t)
    (hbase:attributeBase o name X.env (eval o X.env)=eval o X.env:=by rfl)
    (hfew:((backTo cpos (starEach (e :: es) X.env)).all (fun x=>!x.1) && (backToKw cpos (keywordEach [] X.env)).all (fun x=>x.1.isSome)
      && decide ((e :: es).length+([]:List Keyword).length+(if ([]:List Keyword).isEmpty then 0 else 1)<30))=true:=by rfl)
    (hline:(apos.endLine == cpos.line)=true:=by rfl) (hs:starEach (e :: es) X.env=(false,eval e X.env) :: starEach es X.env:=by rfl) (hplain:(backTo cpos (starEach es X.env)).any (·.1)=false:=by rfl) :
    PE X (.Call (.Attribute o name apos) (e :: es) [] cpos) (tBM X.K T r to t):=by
  intro pins s σ H Q I h
  refine wpAny_Call_method_late hbase hfew hline rfl (thn (ho pins s σ H _ I h) fun v s1 ⟨x,H1,I1,r1,ty,q1⟩=>?_)
  obtain ⟨h1,h2⟩:=tyV_is I1 r1 ty
  refine ⟨T,id,pa,slot,hty,h1,h2,?_⟩
  have hA:=ha cpos pins s1 σ H1 _ I1 q1
  rw [hs] at hA ⊢
  refine Calls.callWith_builtin (by show (false || (backTo cpos (starEach es X.env)).any (·.1))=false; rw [hplain] <;> rfl) (Calls.evalArgs_plain ?_)
  exact thn hA fun us s2 ⟨vs,H2,I2,r2,q2⟩=>hm pins s2 σ H2 x vs v us Q I2 r1 r2 q2
end
end L2
namespace L2
open PySem PySem.Spec PyProof.Rows
def MtM (X:Cx) (id:String) (r:V→List V→Hp→VK→Prop):Prop :=
  ∀ (pins:List (Addr×Obj)) (s:Shared) (σ:St) (H:Hp) (x:V) (xs:List V) (v:Value) (us:List Value) (Q:VK),Inv X pins σ H s→RelV x v→Vals xs us→r x xs H Q →
    wpAny (model X.prog X.w) X.A (call (.builtin id) (v :: us)) (EP X pins σ Q) X.xe s
theorem Vals.one:∀ {x:V} {us:List Value},Vals [x] us→∃ u,us = [u]∧RelV x u
  | _,_,.cons r .nil=>⟨_,rfl,r⟩
theorem Vals.two:∀ {x y:V} {us:List Value},Vals [x,y] us→∃ u v,us = [u,v]∧RelV x u∧RelV y v
  | _,_,_,.cons r (.cons q .nil)=>⟨_,_,rfl,r,q⟩
section
variable {X:Cx} {pins:List (Addr×Obj)} {σ:St} {H:Hp} {s:Shared} {l b:Addr} {xs ys zs:List V}
theorem Inv.lset {its its':List Value} {n:Nat} {f:Array Value→Array Value} {t':Nat} (I:Inv X pins σ H s) (hH:H l=some (.lst xs))
    (e:s.heap.get? l=some { cls:=.type "list", data:=.seq its.toArray n }) (hf:f its.toArray=its'.toArray) (hv:Vals ys its') (hz:ys.length≤sizeLine) :
    Inv X pins σ (upd H l (.lst ys)) { s with heap:=s.heap.update l (Obj.mapSeq f),toks:=t' }:=by
  have q:=PySem.IsL.update e f
  rw [hf] at q
  refine I.write (x:=l) (e:=l) (by rw [hH]; exact trivial) (.inl rfl) (fun b' u hb hu=>(Heap.get?_update_other s.heap (Obj.mapSeq f) (Ne.symm hb)).trans hu) ⟨_,q⟩ ?_
  exact ⟨hz,its',_,hv,q⟩
theorem Inv.lstM (I:Inv X pins σ H s) (hH:H l=some (.lst xs)):xs.length≤sizeLine∧∃ (its:List Value) (n:Nat),Vals xs its∧xs.length=its.length∧s.heap.get? l=some { cls:=.type "list", data:=.seq its.toArray n }:=by
  obtain ⟨z,its,n,r,e⟩:=I.hok l _ hH
  exact ⟨z,its,n,r,r.length,e⟩
end
section
variable {X:Cx}
def rAppend:V→List V→Hp→VK→Prop:=fun x vs H Q=>∃ l xs y,x = .ref l∧vs = [y]∧H l=some (.lst xs)∧xs.length<sizeLine∧Q .non (upd H l (.lst (xs++[y])))
theorem mt_append:MtM X "list.append" rAppend:=by
  intro pins s σ H x vs v us Q I rx rv h
  obtain ⟨l,xs,y,rfl,rfl,hH,hz,q⟩:=h
  cases rx
  obtain ⟨u,rfl,ru⟩:=rv.one
  obtain ⟨z,its,n,r,hl,e⟩:=I.lstM hH
  refine call_meets F.slot_list_append ⟨_,e,rfl⟩ F.entry_list_append (F.args_list_append_2 _ _) (PySem.list_append l its.toArray n u (by rw [List.size_toArray]; omega)) ⟨e,?_⟩
  refine ⟨.non,_,I.lset (its':=its++[u]) hH e (by simp) (r.append (.cons ru .nil)) ?_,rfl,q⟩
  rw [List.length_append,List.length_singleton]
  omega
end
section
variable {prog:Program} {w:World} {A:Around} {E:Value→Shared→Prop} {s:Shared}
end
section
variable {X:Cx}
end
end L2
namespace Att
open PySem PySem.W PySem.Calls PyProof.Rows
theorem ints_of_wellAll {P:Params} {h:Heap}:∀ (ns:List Int) (vs:List Value),WellAll P h vs (ns.map WData.int)→IntsAre vs ns:=by
  intro ns
  induction ns with
  | nil =>
    intro vs w
    rw [List.map_nil] at w
    cases w
    exact .nil
  | cons n ns ih =>
    intro vs w
    rw [List.map_cons] at w
    cases w with
    | cons a b =>
      cases a
      exact .cons _ _ (ih _ b)
theorem script_of {l:OpenLaw} {n:Nat} (hn:l.most=some n) {P:Params} {h:Heap} {args:List WData} {vals:List Value}
    (hpre:l.row.toRowW.claim.pre args=true) (hwl:WellAll P h vals args) :
    ∃ a vs ns,vals = [Value.ref a]∧args = [WData.list (ns.map WData.int)]∧h.get? a=some { cls:=.type "list", data:=.seq vs.toArray }∧IntsAre vs ns∧ns.length≤n:=by
  have hsh:WShape.hasAll [] args [.list .int] = true:=(pre_splitW hpre).1
  have hc:l.pre.holds [] { args:=args } = true:=(pre_splitW hpre).2
  obtain ⟨d,r,rfl,h1,h2⟩:=hasAllW_cons hsh
  obtain rfl:=hasAllW_nil h2
  obtain ⟨xs,rfl,h3⟩:=hasW_list h1
  obtain ⟨ns,rfl⟩:=items_int h3
  have hlen:ns.length≤n:=by
    unfold OpenLaw.pre at hc
    have h4:(WTm.not (.lt (.lit (.int (n:Int))) (.len (.arg 0)))).holds [] { args:=[.list (ns.map .int)] } = true:=by
      have h4:=(holds_andW hc).1
      rw [hn] at h4
      exact h4
    have h5:=condW_of h4 (w_not (w_lt w_lit (w_len_list (w_arg rfl))))
    rw [List.length_map] at h5
    refine Nat.le_of_not_lt fun q=>?_
    have q':(n:Int)<((ns.length:Nat):Int):=by omega
    first
      | (rw [decide_eq_true q'] at h5; exact absurd h5 (by decide))
      | (simp at h5; omega)
  cases hwl with
  | cons w1 w2 =>
    cases w2
    cases w1 with
    | list ho hall=>exact ⟨_,_,ns,rfl,rfl,ho,ints_of_wellAll ns _ hall,hlen⟩
theorem post_true (l:OpenLaw) (args:List WData):l.row.toRowW.claim.post args (.bool true) args=true :=
  postW_of (r:=l.row.toRowW) (X:=(true == true))
    (show WShape.has [] (.bool true) .bool=true by first | rfl | decide | simp [WShape.has,WShape.arms,WShape.armsAll])
    (show (WTm.eq .res (.lit (.bool true))).value [] { args:=args,res:=some (.bool true),after:=args } = some (.bool (true == true)) from w_eq_bool (w_res rfl) w_lit) rfl
theorem attach_call {l:OpenLaw} {n:Nat} {q:Program} {loose:List Str} {XP:(Str→Option Value)→Heap→Prop} {YP:World→Heap→Prop} {d:DefRec}
    (hn:l.most=some n) (hdf:d.params.defaults = [])
    (call:∀ (w:World) (s₀ s₁:Shared) (mg mb:Str→Option Value) (fa:Addr) (o:Obj) (pm cd doc:Value) (a:Addr) (vs:List Value) (ns:List Int),
      Ground q loose [] XP w s₀ mg mb s₁.heap→YP w s₁.heap →
      s₁.heap.get? fa=some o→o.data = .func (docDef d.name d.params d.body d.scope pm cd doc)→s₁.heap.CodeRec cd d.name→mg d.name=some (.ref fa) →
      s₁.heap.get? a=some { cls:=.type "list", data:=.seq vs.toArray }→IntsAre vs ns→ns.length≤n→s₁.gens = #[] →
      codeAny (model l.prog w) callerA (.call (.ref fa) ⟨[.ref a],[]⟩) (fun r s'=>r = .ok (.ret (.bool true))∧OldK s₁.heap s'.heap∧s'.os=s₁.os∧AllBare s'.gens) s₁) :
    WalkO q loose XP YP l.row.toRowW d [] (fun f vs=>PySem.call f vs):=by
  intro w s₀ s₁ mg mb G Y fa o pm cd doc dV kV ho hd hcd hD hmg hg args vals as hpre hlay hrd hwl hlo
  obtain rfl:dV = .none:=Dflts.none hD hdf
  obtain rfl:kV = .none:=Dflts.noKw hD
  obtain ⟨a,vs,ns,rfl,rfl,hobj,hints,hlen⟩:=script_of hn hpre hwl
  refine enter_call (codeAny_mono (call w s₀ s₁ mg mb fa o pm cd doc a vs ns G Y ho (fd_plain hd) hcd hmg hobj hints hlen hg) fun r s' hq=>?_)
  obtain ⟨rfl,h2,h3,h4⟩:=hq
  exact ⟨.inl ⟨.bool true,.bool true,[],rfl,fun _=>rfl,.bool true,post_true l _,fun _=>⟨List.Pairwise.nil,fun _ hm=>(nomatch hm)⟩⟩,h2,h3,h4⟩
section
variable {prog:Program} {w:World} {A:Around} {E:Value→Shared→Prop} {s:Shared} {K:Frag}
end
end Att
namespace L2
open PySem PySem.Spec PyProof.Rows
theorem vals_ints:∀ {vs:List Value} {ns:List Int},IntsAre vs ns→Vals (ns.map V.int) vs
  | _,_,.nil=>.nil
  | _,_,.cons n t h=>.cons ⟨t,rfl⟩ (vals_ints h)
def Only (H:Hp):Prop:=∀ b,H b=none∨∃ o xs,H b=some (.frz o (.lst xs))
theorem law_call {P:Program} {w:World} {K:PySem.W.Frag} {mg mb:Str→Option Value} {CX:CXT} {k:Nat} {fa a:Addr} {fd:FuncData} {x:Str} {sp:Sp} {s₁:Shared} {vs:List Value} {ns:List Int}
    (KX:K.In s₁.heap) (hns:s₁.heap.Ns mainGlobals mg) (hb:s₁.heap.Ns builtinsNs mb) (hbb:∀ x:Str,x ≠ "__name__" → mb x=bootBuiltins x) (hlim:s₁.heap.NoLimit) (hg:s₁.gens = #[])
    (ha:s₁.heap.get? a=some { cls:=.type "list", data:=.seq vs.toArray }) (hi:IntsAre vs ns) (hl:ns.length≤sizeLine) (hr:Room k callerA)
    (F:∀ base:Heap,K.In base→base.Ns mainGlobals mg→FnOk P w K mg base CX k fa fd [x] sp) (hbind:∀ (s:Shared) (u:Value),BindsTo s fd ⟨[u],[]⟩ [(x,u)])
    (hsp:∀ H:Hp,Only H→SqL K H a (ns.map V.int)→sp [.ref a] H (fun v _=>v = .bl true) fun _ _ _=>False)
    (hCX:∀ H e s',CX [] H s₁ (fun _ _ _=>False) e s'→False) :
    codeAny (model P w) callerA (.call (.ref fa) ⟨[.ref a],[]⟩) (fun r s'=>r = .ok (.ret (.bool true))∧OldK s₁.heap s'.heap∧s'.os=s₁.os∧AllBare s'.gens) s₁:=by
  have rv:=vals_ints hi
  have lenV:=hi.length
  have core:∀ H:Hp,Only H→SqL K H a (ns.map V.int)→HOk P w H s₁.heap→(∀ b,H b≠none→b=a)→(H a≠none→K.lookup a=none) →
      codeAny (model P w) callerA (.call (.ref fa) ⟨[.ref a],[]⟩) (fun r s'=>r = .ok (.ret (.bool true))∧OldK s₁.heap s'.heap∧s'.os=s₁.os∧AllBare s'.gens) s₁:=by
    intro H hO hS hok hA hK
    have base_of:∀ {b:Addr} {o:Obj},s₁.heap.get? b=some o→H b=none→(hidT s₁.heap H).get? b=some o:=fun e n=>hidT_get e n
    have noA:∀ {b:Addr} {o:Obj} {es:Array DictEntry} {ep:Nat},s₁.heap.get? b=some o→o.data = .dict es ep→H b=none:=fun {b o es ep} e d=>by
      cases q:H b with
      | none=>rfl
      | some u =>
        have e':b=a:=hA b (by rw [q]; simp)
        subst e'
        rw [ha] at e; cases e
        have d':Data.seq vs.toArray _=Data.dict es ep:=d
        cases d'
    have nsK:∀ {b:Addr} {m:Str→Option Value},s₁.heap.Ns b m→(hidT s₁.heap H).Ns b m:=fun {b m} ⟨o,es,ep,e,d,r⟩=>⟨o,es,ep,base_of e (noA e d),d,r⟩
    have hKb:K.In (hidT s₁.heap H):=fun b o e=>base_of (KX b o e) (by
      cases q:H b with
      | none=>rfl
      | some u =>
        have e':b=a:=hA b (by rw [q]; simp)
        subst e'
        rw [hK (by rw [q]; simp)] at e; cases e)
    have hM:Mod K mg (hidT s₁.heap H):=⟨hKb,nsK hns,⟨mb,nsK hb,hbb⟩,let ⟨mc,h1,h2⟩:=hlim; ⟨mc,nsK h1,h2⟩⟩
    have e0:Env0 P w K mg (hidT s₁.heap H) callerA [] s₁ H:=⟨rfl,hM,fun b o e=>of_hidT e,Nat.le_of_eq (hidT_size _ _),trivial,fun b hb=>absurd (show b∈([]:List Addr) from hb) (by simp),hok,.of_eq hg⟩
    refine codeAny_mono ((F _ hKb (nsK hns)).run callerA [] s₁ H ⟨[.ref a],[]⟩ [.ref a] [.ref a] _ _ hr e0 (hbind s₁ (.ref a)) (.cons rfl .nil) (hsp H hO hS)) fun r s' h=>?_
    cases r with
    | error e=>exact (hCX H e s' h).elim
    | ok fl =>
      cases fl with
      | next=>exact False.elim h
      | brk=>exact False.elim h
      | cont=>exact False.elim h
      | ret u =>
        obtain ⟨v,H',os,bare,un,hok',r',q⟩:=h
        have q':v = .bl true:=q
        subst q'
        obtain rfl:u=Value.bool true:=r'
        refine ⟨rfl,OldK.of_keep fun b o e=>?_,os,bare⟩
        cases q:H b with
        | none=>exact un.keep b o e q (by intro z; exact absurd (show b∈([]:List Addr) from z) (by simp)) (by simp)
        | some u =>
          rcases hO b with z | ⟨ob,xs,z⟩
          · rw [q] at z; cases z
          · have z2:=un.frzs b ob _ z
            obtain ⟨e1,_⟩:=hok b _ z
            obtain ⟨e2,_⟩:=hok' b _ z2
            rw [e] at e1; cases e1
            exact e2
  cases hk:K.lookup a with
  | some o =>
    have e:=KX a o hk
    rw [ha] at e
    cases e
    refine core (fun _=>none) (fun _=>.inl rfl) (.inr ⟨_,vs.toArray,_,hk,rfl,rfl,rfl,by rw [List.size_toArray,lenV]; exact hl,by simpa using rv⟩) (fun b u z=>by have z':(none:Option HO)=some u:=z; cases z') (fun b z=>absurd rfl z) fun z=>absurd rfl z
  | none =>
    refine core (fun b=>if b=a then some (.frz { cls:=.type "list", data:=.seq vs.toArray } (.lst (ns.map V.int))) else none) (fun b=>?_) (.inl (.inr ⟨{ cls:=.type "list", data:=.seq vs.toArray },if_pos rfl⟩)) (fun b u z=>?_) (fun b z=>?_) fun _=>hk
    · by_cases hb:b=a
      · exact .inr ⟨_,_,if_pos hb⟩
      · exact .inl (if_neg hb)
    · by_cases hb:b=a
      · have z':=(if_pos hb).symm.trans z
        cases z'
        subst hb
        exact ⟨ha,by rw [List.length_map]; exact hl,vs,_,rv,ha⟩
      · have z':=(if_neg hb).symm.trans z
        cases z'
    · by_cases hb:b=a
      · exact hb
      · exact absurd (if_neg hb) z
end L2
namespace L2
open PySem PySem.Spec PyProof.Rows
abbrev KOf {K:PySem.W.Frag} {h:Heap} (_:K.In h):PySem.W.Frag:=K
theorem walk_of {l:PySem.W.OpenLaw} {n k:Nat} {q:Program} {loose:List Str} {XP:(Str→Option Value)→Heap→Prop} {YP:World→Heap→Prop} {d:DefRec} {K:Params→PySem.W.Frag} {CX:World→CXT} {sp:World→Sp} {x:Str}
    (hn:l.most=some n) (hn2:n≤sizeLine) (hdf:d.params.defaults = []) (hr:Room k callerA)
    (hY:∀ (w:World) (h:Heap),YP w h→(K w.params).In h)
    (F:∀ (w:World) (mg:Str→Option Value) (fa:Addr) (h:Heap),(K w.params).In h→h.Ns mainGlobals mg→mg d.name=some (.ref fa) →
      ∃ fd:FuncData,(∀ (s:Shared) (u:Value),BindsTo s fd ⟨[u],[]⟩ [(x,u)]) ∧
        ∀ base:Heap,(K w.params).In base→base.Ns mainGlobals mg→FnOk l.prog w (K w.params) mg base (CX w) k fa fd [x] (sp w))
    (hsp:∀ (w:World) (H:Hp) (a:Addr) (ns:List Int),ns.length≤n→Only H→SqL (K w.params) H a (ns.map V.int)→sp w [.ref a] H (fun v _=>v = .bl true) fun _ _ _=>False)
    (hCX:∀ (w:World) (H:Hp) (s:Shared) (e:Value) (s':Shared),CX w [] H s (fun _ _ _=>False) e s'→False) :
    PySem.W.WalkO q loose XP YP l.row.toRowW d [] (fun f vs=>PySem.call f vs):=by
  refine Att.attach_call hn hdf fun w s₀ s₁ mg mb fa o pm cd doc a vs ns G Y ho hd hcd hmg hobj hints hlen hg=>?_
  have KX:=hY w _ Y
  obtain ⟨fd,hb,hF⟩:=F w mg fa _ KX G.T.g hmg
  exact law_call KX G.T.g G.T.b G.T.builtins G.T.nolimit hg hobj hints (Nat.le_trans hlen hn2) hr hF hb (fun H hO hS=>hsp w H a ns hlen hO hS) fun H e s'=>hCX w H s₁ e s'
end L2
namespace L2
open PySem PySem.Spec PyProof.Rows
def inClass (s:Stmt) (j:Nat):Stmt:=match s with
  | .ClassDef _ _ _ body _ _ _ _ _ _ _=>body.getD j (.Pass ⟨0,0,0,0⟩)
  | _=>.Pass ⟨0,0,0,0⟩
def defArgs (s:Stmt):Arguments:=match s with
  | .FunctionDef _ a _ _ _ _ _ _ _ _=>a
  | _=>{ posonlyargs:=[],args:=[],vararg:=none,kwonlyargs:=[],kw_defaults:=[],kwarg:=none,defaults:=[] }
def defBody (s:Stmt):List Stmt:=match s with
  | .FunctionDef _ _ b _ _ _ _ _ _ _=>b
  | _=>[]
def defScope (s:Stmt):Scope:=match s with
  | .FunctionDef _ _ _ _ _ _ sc _ _ _=>sc
  | _=>{ kind:=.function,names:=[],isGenerator:=false,isCoroutine:=false }
abbrev CX0:CXT:=fun _ _ _ _ _ _=>False
abbrev E0:XK:=fun _ _ _=>False
structure Fun (K:PySem.W.Frag) (x qual:Str) (st:Stmt) (f:Addr) (fd:FuncData):Prop where
  ex:∃ (oc:Value) (od:Option Addr) (kV doc pm:Value) (an:Option Addr) (cdv ct:Value) (osl:Array (Option Value)),
    fd=PySem.W.fnOf x qual (defArgs st) (defBody st) (defScope st) .none kV doc pm an cdv ct∧K.lookup f=some ⟨oc,od,.func fd,osl⟩∧PySem.W.codeIn K cdv qual=true
  kp:PySem.W.keepIn K (.ref f)=true
section
variable {P:Program} {w:World} {K:PySem.W.Frag} {mg:Str→Option Value} {base:Heap}
theorem Fun.ok {x qual:Str} {st:Stmt} {f:Addr} {fd:FuncData} {N ps:List Str} {k:Nat} {sp:Sp} (F:Fun K x qual st f fd) (S:FnScope N ps (defScope st)) (len:∀ vs H Q E,sp vs H Q E→vs.length=ps.length)
    (hbody:∀ (cdv:Value) (A:Around) (outer:List Env) (s:Shared) (H:Hp) (vs:List V) (Q:VK) (E:XK),Room k (A.deeper (envOfC qual (defScope st) s.heap.objs.size f cdv))→sp vs H Q E →
      ∃ t,PSs (cxOf CX0 P w K mg base N qual (defScope st) f cdv A outer s H E).nox (defBody st) t∧t { nx:=fun _ H'=>Q .non H',rt:=Q } (start N vs) H):FnOk P w K mg base CX0 (k+1) f fd ps sp:=by
  obtain ⟨oc,od,kV,doc,pm,an,cdv,ct,osl,rfl,lk,hcd⟩:=F.ex
  refine fn_of lk hcd S len fun A outer s H vs Q E hr hsp=>?_
  obtain ⟨t,h,q⟩:=hbody cdv A outer s H vs Q E hr hsp
  exact ⟨t,h.nox,q⟩
theorem Fun.binds {x qual:Str} {st:Stmt} {f:Addr} {fd:FuncData} {ps:List Str} (F:Fun K x qual st f fd)
    (h:∀ (kV doc pm:Value) (an:Option Addr) (cdv ct:Value) (us:List Value),us.length=ps.length→bindArgs (PySem.W.fnOf x qual (defArgs st) (defBody st) (defScope st) .none kV doc pm an cdv ct) ⟨us,[]⟩ = pure (ps.zip us)):Binds K fd ps []:=by
  obtain ⟨oc,od,kV,doc,pm,an,cdv,ct,osl,rfl,lk,hcd⟩:=F.ex
  exact .all (h kV doc pm an cdv ct)
theorem fun_mk {x qual:Str} {st:Stmt} {f:Addr} {oc:Value} {od an:Option Addr} {osl:Array (Option Value)} {kV doc pm cdv ct:Value} (l:K.lookup f=some ⟨oc,od,.func (PySem.W.fnOf x qual (defArgs st) (defBody st) (defScope st) .none kV doc pm an cdv ct),osl⟩)
    (c:PySem.W.codeIn K cdv qual=true) (k:PySem.W.keepIn K (.ref f)=true):Fun K x qual st f (PySem.W.fnOf x qual (defArgs st) (defBody st) (defScope st) .none kV doc pm an cdv ct):=⟨⟨oc,od,kV,doc,pm,an,cdv,ct,osl,rfl,l,c⟩,k⟩
end
theorem hu_of {A:Around} {k:Nat} (hr:Room k A):A.units+1<cLine:=Nat.lt_of_le_of_lt (Nat.add_le_add_left (by decide:1≤64) _) hr.units
section
variable {X:Cx}
theorem pv (i:Nat) {x:Str} {pos:Pos} (hN:X.N[i]? = some x:=by rfl) (hv:Vis X.env.scope x:=by first | exact Or.inl rfl | exact Or.inr (Or.inl rfl) | exact Or.inr (Or.inr rfl)) (hd:(x == ("__debug__" : Str))=false:=by decide)
    (hcd:(x == ("__classdict__" : Str))=false:=by decide):PE X (.Name x pos) (tVar i):=pe_var hN hv hd hcd
end
theorem ite2 {c A B:Prop} [Decidable c] (h1:c→A) (h2:¬ c→B):if c then A else B:=by
  by_cases h:c
  · rw [if_pos h]
    exact h1 h
  · rw [if_neg h]
    exact h2 h
def Same (H H':Hp):Prop:=∀ b o,H b=some o→H' b=some o
theorem Same.refl (H:Hp):Same H H:=fun _ _ h=>h
theorem Same.trans {H H1 H2:Hp} (a:Same H H1) (b:Same H1 H2):Same H H2:=fun c o h=>b c o (a c o h)
theorem Same.free {H H':Hp} (e:Same H H') {l:Addr} (h:H' l=Option.none):H l=Option.none:=by
  cases q:H l with
  | none=>rfl
  | some o =>
    rw [e l o q] at h
    cases h
theorem Same.seq {K:PySem.W.Frag} {H H':Hp} {a:Addr} {xs:List V} (e:Same H H') (h:SqL K H a xs):SqL K H' a xs:=by
  rcases h with (h | ⟨o,h⟩) | h
  · exact .inl (.inl (e _ _ h))
  · exact .inl (.inr ⟨o,e _ _ h⟩)
  · exact .inr h
end L2
set_option maxHeartbeats 4000000
namespace L2
open PySem PySem.Spec PyProof.Rows
theorem elc {α:Type} {P:List α→Prop} {n:Nat} (h:∀ x r,r.length=n→P (x :: r)):∀ us:List α,us.length=n+1→P us
  | [],e=>absurd e (by simp)
  | x :: r,e=>h x r (by simpa using e)
theorem el0 {α:Type} {P:List α→Prop} (h:P []):∀ us:List α,us.length = 0→P us
  | [],_=>h
  | _ :: _,e=>absurd e (by simp)
theorem el1 {α:Type} {P:List α→Prop} (h:∀ x0,P [x0]):∀ us:List α,us.length = 1→P us:=elc fun x r e=>el0 (P:=fun r=>P (x :: r)) (h x) r e
theorem el2 {α:Type} {P:List α→Prop} (h:∀ x0 x1,P [x0,x1]):∀ us:List α,us.length = 2→P us:=elc fun x r e=>el1 (P:=fun r=>P (x :: r)) (h x) r e
theorem el3 {α:Type} {P:List α→Prop} (h:∀ x0 x1 x2,P [x0,x1,x2]):∀ us:List α,us.length = 3→P us:=elc fun x r e=>el2 (P:=fun r=>P (x :: r)) (h x) r e
theorem el4 {α:Type} {P:List α→Prop} (h:∀ x0 x1 x2 x3,P [x0,x1,x2,x3]):∀ us:List α,us.length = 4→P us:=elc fun x r e=>el3 (P:=fun r=>P (x :: r)) (h x) r e
theorem el5 {α:Type} {P:List α→Prop} (h:∀ x0 x1 x2 x3 x4,P [x0,x1,x2,x3,x4]):∀ us:List α,us.length = 5→P us:=elc fun x r e=>el4 (P:=fun r=>P (x :: r)) (h x) r e
end L2
namespace Sw
def dv (a b:Int):Int:=(Int.gcd a b:Nat)
theorem dv_nn (a b:Int):0≤dv a b:=Int.natCast_nonneg _
theorem dv_l (a b:Int):dv a b ∣ a:=Int.gcd_dvd_left a b
theorem dv_r (a b:Int):dv a b ∣ b:=Int.gcd_dvd_right a b
theorem dv_comm (a b:Int):dv a b=dv b a:=by unfold dv; rw [Int.gcd_comm]
theorem dv_negl (a b:Int):dv (-a) b=dv a b:=by unfold dv; rw [Int.neg_gcd]
theorem dv_negr (a b:Int):dv a (-b)=dv a b:=by unfold dv; rw [Int.gcd_neg]
theorem dv_zero (a:Int) (h:0≤a):dv a 0=a:=by
  unfold dv; rw [Int.gcd_zero_right]; omega
theorem dv_eq0 {a b:Int} (h:dv a b = 0):a = 0∧b = 0:=by
  unfold dv at h
  exact Int.gcd_eq_zero_iff.mp (by omega)
theorem dv_pos {a b:Int} (h:b≠0):0<dv a b:=by
  have:=dv_nn a b
  rcases Int.lt_or_eq_of_le this with q | q
  · exact q
  · exact absurd (dv_eq0 q.symm).2 h
theorem dv_dvd {a b c:Int} (h1:c ∣ a) (h2:c ∣ b):c ∣ dv a b:=Int.dvd_coe_gcd h1 h2
theorem dv_ext {a b c d:Int} (h:∀ x:Int,(x ∣ a∧x ∣ b)↔(x ∣ c∧x ∣ d)):dv a b=dv c d:=by
  have h1:dv a b ∣ dv c d:=dv_dvd ((h _).mp ⟨dv_l a b,dv_r a b⟩).1 ((h _).mp ⟨dv_l a b,dv_r a b⟩).2
  have h2:dv c d ∣ dv a b:=dv_dvd ((h _).mpr ⟨dv_l c d,dv_r c d⟩).1 ((h _).mpr ⟨dv_l c d,dv_r c d⟩).2
  exact Int.dvd_antisymm (dv_nn _ _) (dv_nn _ _) h1 h2
theorem dv_step (a b:Int):dv b (a % b)=dv a b:=by
  refine dv_ext fun x=>⟨fun ⟨h1,h2⟩=>⟨?_,h1⟩,fun ⟨h1,h2⟩=>⟨h2,?_⟩⟩
  · have e:=Int.mul_ediv_add_emod a b
    rw [← e]
    exact Int.dvd_add (Int.dvd_trans h1 (Int.dvd_mul_right b _)) h2
  · rw [Int.emod_def]
    exact Int.dvd_sub h1 (Int.dvd_trans h2 (Int.dvd_mul_right b _))
theorem dv_abs (a b:Int):dv (if a<0 then -a else a) (if b<0 then -b else b)=dv a b:=by
  split <;> split <;> simp only [dv_negl,dv_negr]
theorem dv_scale (g a b:Int) (h:0≤g):dv (g*a) (g*b)=g*dv a b:=by
  unfold dv; rw [Int.gcd_mul_left]
  have:((g.natAbs*a.gcd b:Nat):Int)=(g.natAbs:Int)*(a.gcd b:Nat):=by simp
  rw [this]; congr 1; omega
theorem dv_quot {a b:Int} (h:dv a b≠0):dv (a / dv a b) (b / dv a b) = 1:=by
  have hp:0<dv a b:=by have:=dv_nn a b; omega
  have e1:a=dv a b*(a / dv a b):=(Int.mul_ediv_cancel' (dv_l a b)).symm
  have e2:b=dv a b*(b / dv a b):=(Int.mul_ediv_cancel' (dv_r a b)).symm
  have e:dv a b=dv a b*dv (a / dv a b) (b / dv a b):=by
    have:=dv_scale (dv a b) (a / dv a b) (b / dv a b) (Int.le_of_lt hp)
    rw [← e1,← e2] at this
    exact this
  have e':dv a b*1=dv a b*dv (a / dv a b) (b / dv a b):=by rw [Int.mul_one]; exact e
  exact (Int.eq_of_mul_eq_mul_left (by omega) e').symm
structure Fr (n d:Int):Prop where
  pos:0<d
  low:dv n d = 1
theorem cop_dvd {n d x:Int} (h:dv n d = 1) (q:d ∣ n*x):d ∣ x:=by
  have h':Nat.Coprime d.natAbs n.natAbs:=by
    unfold dv at h
    have:Int.gcd n d = 1:=by omega
    unfold Nat.Coprime
    rw [Nat.gcd_comm]; exact this
  have q':d.natAbs ∣ n.natAbs*x.natAbs:=by rw [← Int.natAbs_mul]; exact Int.natAbs_dvd_natAbs.mpr q
  exact Int.natAbs_dvd_natAbs.mp (h'.dvd_of_dvd_mul_left q')
theorem Fr.uniq {n d m e:Int} (h:Fr n d) (k:Fr m e) (q:n*e=m*d):n=m∧d=e:=by
  have h1:d ∣ e:=cop_dvd h.low ⟨m,by rw [q,Int.mul_comm]⟩
  have h2:e ∣ d:=cop_dvd k.low ⟨n,by rw [← q,Int.mul_comm]⟩
  have e1:d=e:=Int.dvd_antisymm (Int.le_of_lt h.pos) (Int.le_of_lt k.pos) h1 h2
  subst e1
  have:=h.pos
  exact ⟨Int.eq_of_mul_eq_mul_right (by omega) q,rfl⟩
def rN (t b:Int):Int:=if b<0 then t / (-(dv t b)) else t / dv t b
def rD (t b:Int):Int:=if b<0 then b / (-(dv t b)) else b / dv t b
theorem rN_mul {t b:Int}:rN t b*(if b<0 then -(dv t b) else dv t b)=t:=by
  unfold rN
  split
  · exact Int.ediv_mul_cancel (Int.neg_dvd.mpr (dv_l t b))
  · exact Int.ediv_mul_cancel (dv_l t b)
theorem rD_mul {t b:Int}:rD t b*(if b<0 then -(dv t b) else dv t b)=b:=by
  unfold rD
  split
  · exact Int.ediv_mul_cancel (Int.neg_dvd.mpr (dv_r t b))
  · exact Int.ediv_mul_cancel (dv_r t b)
theorem rat_cross {t b:Int} (h:b≠0):rN t b*b=rD t b*t:=by
  have e1:=rN_mul (t:=t) (b:=b)
  have e2:=rD_mul (t:=t) (b:=b)
  generalize (if b<0 then -(dv t b) else dv t b)=c at e1 e2
  calc rN t b*b=rN t b*(rD t b*c):=by rw [e2]
    _=rD t b*(rN t b*c):=by rw [← Int.mul_assoc,← Int.mul_assoc,Int.mul_comm (rN t b)]
    _=rD t b*t:=by rw [e1]
theorem rat_fr {t b:Int} (h:b≠0):Fr (rN t b) (rD t b):=by
  have hp:=dv_pos (a:=t) h
  refine ⟨?_,?_⟩
  · unfold rD
    by_cases hb:b<0
    · rw [if_pos hb,Int.ediv_neg]
      obtain ⟨k,hk⟩:=dv_r t b
      have:b / dv t b=k:=Int.ediv_eq_of_eq_mul_right (by omega) hk
      rw [this]
      rcases Int.lt_or_le k 0 with q | q
      · omega
      · have:=Int.mul_nonneg (Int.le_of_lt hp) q; omega
    · rw [if_neg hb]
      obtain ⟨k,hk⟩:=dv_r t b
      have:b / dv t b=k:=Int.ediv_eq_of_eq_mul_right (by omega) hk
      rw [this]
      rcases Int.lt_or_le 0 k with q | q
      · exact q
      · have:=Int.mul_nonneg_of_nonpos_of_nonpos (a:=-(dv t b)) (b:=k) (by omega) q
        rw [Int.neg_mul] at this
        omega
  · have q:=dv_quot (a:=t) (b:=b) (by omega)
    unfold rN rD
    by_cases hb:b<0
    · rw [if_pos hb,if_pos hb,Int.ediv_neg,Int.ediv_neg,dv_negl,dv_negr]; exact q
    · rw [if_neg hb,if_neg hb]; exact q
def Sz (n:Nat) (x:Int):Prop:=x.natAbs<2 ^ n
theorem Sz.mono {m n:Nat} {x:Int} (h:Sz m x) (hm:m≤n):Sz n x:=Nat.lt_of_lt_of_le h (Nat.pow_le_pow_right (by decide) hm)
theorem Sz.mul {m n:Nat} {x y:Int} (h:Sz m x) (k:Sz n y):Sz (m+n) (x*y):=by
  unfold Sz at *
  rw [Int.natAbs_mul,Nat.pow_add]
  by_cases hy:y.natAbs = 0
  · rw [hy,Nat.mul_zero]; exact Nat.mul_pos (Nat.two_pow_pos m) (Nat.two_pow_pos n)
  · exact Nat.mul_lt_mul_of_lt_of_lt h k
theorem Sz.add {n:Nat} {x y:Int} (h:Sz n x) (k:Sz n y):Sz (n+1) (x+y):=by
  unfold Sz at *
  rw [Nat.pow_succ]; omega
theorem Sz.sub {n:Nat} {x y:Int} (h:Sz n x) (k:Sz n y):Sz (n+1) (x-y):=by
  unfold Sz at *
  rw [Nat.pow_succ]; omega
theorem Sz.neg {n:Nat} {x:Int} (h:Sz n x):Sz n (-x):=by unfold Sz at *; omega
theorem Sz.le {n:Nat} {x y:Int} (h:Sz n y) (k:x.natAbs≤y.natAbs):Sz n x:=Nat.lt_of_le_of_lt k h
theorem Sz.zero (n:Nat):Sz n 0:=Nat.two_pow_pos n
theorem Sz.dvd {n:Nat} {x y:Int} (h:Sz n y) (d:x ∣ y) (hy:y≠0):Sz n x:=by
  refine h.le ?_
  exact Nat.le_of_dvd (by omega) (Int.natAbs_dvd_natAbs.mpr d)
end Sw
namespace Sw
theorem Sz.lit {x:Int} (h:x.natAbs<1606938044258990275541962092341162602522202993782792835301376):Sz 5000 x:=by
  have e:(2:Nat) ^ 200 = 1606938044258990275541962092341162602522202993782792835301376:=by decide
  exact Nat.lt_of_lt_of_le (by rw [e]; exact h) (Nat.pow_le_pow_right (by decide) (by decide:200≤5000))
end Sw
namespace Sw
theorem Sz.r60 {x:Int} (h1:-1000000000000000000000000000000000000000000000000000000000000<x) (h2:x<1000000000000000000000000000000000000000000000000000000000000):Sz 200 x:=by
  have e:(2:Nat) ^ 200 = 1606938044258990275541962092341162602522202993782792835301376:=by decide
  unfold Sz; rw [e]; omega
end Sw
namespace Sw
theorem Sz.r18 {x:Int} (h1:-100000000000000000000<x) (h2:x<100000000000000000000):Sz 70 x:=by
  have e:(2:Nat) ^ 70 = 1180591620717411303424:=by decide
  unfold Sz; rw [e]; omega
theorem Sz.one (n:Nat):Sz (n+1) 1:=by
  unfold Sz
  exact Nat.lt_of_lt_of_le (by decide:Int.natAbs 1<2 ^ 1) (Nat.pow_le_pow_right (by decide) (by omega))
end Sw
namespace L2
open PySem PySem.Spec PyProof.Rows
theorem bits_of_sz {n:Nat} {x:Int} (h:Sw.Sz n x):Builtin.Int.intBits x≤n:=by
  unfold Builtin.Int.intBits
  split
  · exact Nat.zero_le _
  · rename_i hx
    have hx':x≠0:=by simpa using hx
    have:x.natAbs.log2<n:=(Nat.log2_lt (by omega)).mpr h
    omega
def CMulL (i j:Int):Prop:=Sw.Sz 5000 i∧Sw.Sz 5000 j
def CDivL (i j:Int):Prop:=0<j∧Sw.Sz 5000 j
def CDivS (i j:Int):Prop:=j≠0∧Sw.Sz 5000 j
theorem pylong_of {i j:Int} (h0:j≠0) (h:Sw.Sz 5000 j):Builtin.divisionGoesByPylong i j=false:=by
  refine PyProof.noPylong_of_log2 ?_
  have:j.natAbs.log2<5000:=(Nat.log2_lt (by omega)).mpr h
  omega
section
variable {X:Cx}
theorem op_mulL:OpR X (binaryOp .Mult) (rI CMulL fun i j=>.int (i*j)):=opI fun _ _ _ _ _ _ _ hc q =>
  mul_int q (IntMulOk.of_bits (Nat.le_trans (bits_of_sz hc.1) (by decide)) (Nat.le_trans (bits_of_sz hc.2) (by decide)))
theorem op_fdivL:OpR X (binaryOp .FloorDiv) (rI CDivL fun i j=>.int (i / j)):=opI fun i j _ _ _ _ _ hc q=>by
  have h1:(0:Int)<j:=hc.1
  exact floordiv_int (by omega) (by rw [Int.fdiv_eq_ediv_of_nonneg i (by omega)]; exact q) (.inl (pylong_of (by omega) hc.2))
theorem op_fdivS:OpR X (binaryOp .FloorDiv) (rI CDivS fun i j=>.int (i.fdiv j)):=opI fun _ _ _ _ _ _ _ hc q=>floordiv_int hc.1 q (.inl (pylong_of hc.1 hc.2))
structure Def (P:Program) (w:World) (K:PySem.W.Frag) (mg:Str→Option Value) (base:Heap) (CX:CXT) (k:Nat) (x:Str) (ps:List Str) (sp:Sp):Prop where
  ex:∃ (f:Addr) (fd:FuncData),FnOk P w K mg base CX k f fd ps sp∧Binds K fd ps []∧PySem.W.keepIn K (.ref f)=true∧mg x=some (.ref f)
structure Src (K:PySem.W.Frag) (mg:Str→Option Value) (x:Str) (st:Stmt) (ps:List Str):Prop where
  ex:∃ (f:Addr) (fd:FuncData),Fun K x x st f fd∧Binds K fd ps []∧mg x=some (.ref f)
end
end L2
namespace L2
theorem while_det {c:TT} {tb:TS} {D:Ends} {σ:St} {H:Hp} (Pv:St→Hp→Prop) (μ:St→Hp→Nat) (h0:Pv σ H)
    (hs:∀ σ H,Pv σ H→∃ b:Bool,(∀ Q:Bool→Hp→Prop,Q b H→c σ H Q)∧(b=true→tb { D with nx:=fun σ' H'=>Pv σ' H'∧μ σ' H' < μ σ H,ct:=fun σ' H'=>Pv σ' H'∧μ σ' H' < μ σ H,bk:=D.nx } σ H)∧(b=false→D.nx σ H)):tWhile c tb D σ H:=by
  refine ⟨fun m σ H=>m = μ σ H∧Pv σ H,⟨_,rfl,h0⟩,?_⟩
  rintro m σ H ⟨rfl,p⟩
  obtain ⟨b,hc,h1,h2⟩:=hs σ H p
  refine hc _ ?_
  cases b with
  | true=>exact ⟨_,fun σ' H' ⟨p',l⟩=>⟨_,l,rfl,p'⟩,h1 rfl⟩
  | false=>exact h2 rfl
end L2
namespace L2
open PySem PySem.Spec PyProof.Rows
def spLaw (K:PySem.W.Frag):Sp:=fun vs H Q _=>∃ (a:Addr) (ns:List Int),vs = [.ref a]∧SqL K H a (ns.map V.int)∧ns.length≤63∧∀ H',Q (.bl true) H'
end L2
namespace L2
open PySem PySem.Spec PyProof.Rows
def spInt1 (g:Int→Int):Sp:=fun vs H Q _=>∃ a,vs = [.int a]∧Q (.int (g a)) H
def spInt2 (g:Int→Int→Int):Sp:=fun vs H Q _=>∃ a b,vs = [.int a,.int b]∧Q (.int (g a b)) H
def cellI (ns:List Int) (k:Int):Int:=(ns[k.toNat]?).getD 0
def spCell (K:PySem.W.Frag):Sp:=fun vs H Q _=>∃ a ns k,vs = [.ref a,.int k]∧SqL K H a (ns.map V.int)∧0≤k∧Q (.int (cellI ns k)) H
theorem cellAt_get {ns:List Int} {k:Int} (h0:0≤k) (h:k<ns.length):atI (ns.map V.int) k=some (V.int (cellI ns k)):=by
  have e:((k.toNat:Nat):Int)=k:=by omega
  have hl:k.toNat<ns.length:=by omega
  have q:(ns.map V.int)[k.toNat]? = some (V.int (cellI ns k)):=by
    rw [List.getElem?_map]
    unfold cellI
    rw [List.getElem?_eq_getElem hl]
    rfl
  have:=atI_nat q
  rw [e] at this
  exact this
theorem cellAt_none {ns:List Int} {k:Int} (h0:0≤k) (h:¬ k<ns.length):cellI ns k = 0:=by
  unfold cellI
  rw [List.getElem?_eq_none (by omega)]
  rfl
def spWhole:Sp:=fun vs H Q _=>∃ n,vs = [.int n]∧Q (.bl true) H
end L2
namespace L2
theorem seq_step {t u:TS} {D:Ends} {σ:St} {H:Hp} (h:∀ R:St→Hp→Prop,(∀ σ H,u D σ H→R σ H)→t { D with nx:=R } σ H):tSeq t u D σ H:=h (u D) fun _ _ x=>x
end L2
namespace L2
open PySem PySem.Spec PyProof.Rows
theorem spCell_of {K:PySem.W.Frag} {H:Hp} {a:Addr} {ns:List Int} {k:Int} {Q:VK} {E:XK} (hS:SqL K H a (ns.map V.int)) (h0:0≤k) (q:Q (.int (cellI ns k)) H):spCell K [.ref a,.int k] H Q E:=⟨a,ns,k,rfl,hS,h0,q⟩
end L2
namespace L2
theorem cmulL_lit {a b:Int} (h1:a.natAbs<1606938044258990275541962092341162602522202993782792835301376) (h2:b.natAbs<1606938044258990275541962092341162602522202993782792835301376):CMulL a b:=⟨Sw.Sz.lit h1,Sw.Sz.lit h2⟩
theorem cdivL_lit {a b:Int} (h0:0<b) (h2:b.natAbs<1606938044258990275541962092341162602522202993782792835301376):CDivL a b:=⟨h0,Sw.Sz.lit h2⟩
end L2
namespace L2
open PySem
theorem line_lit {n:Nat} (h:n≤1000):n≤sizeLine:=Nat.le_trans h (by decide)
theorem line_lt {n:Nat} (h:n<1000):n<sizeLine:=Nat.lt_of_lt_of_le h (by decide)
end L2
namespace L2
open PySem
theorem ixT_at {K:PySem.W.Frag} {H:Hp} {p:Addr} {xs:List V} {i:Int} {v:V} {Q:VK} (hT:SqT K H p xs) (h:atI xs i=some v) (q:Q v H):rIxT K (.ref p) (.int i) H Q:=⟨p,xs,i,v,rfl,rfl,hT,h,q⟩
theorem ixL_at {K:PySem.W.Frag} {H:Hp} {p:Addr} {xs:List V} {i:Int} {v:V} {Q:VK} (hT:SqL K H p xs) (h:atI xs i=some v) (q:Q v H):rIxL K (.ref p) (.int i) H Q:=⟨p,xs,i,v,rfl,rfl,hT,h,q⟩
end L2
namespace L2
open PySem PySem.Spec PyProof.Rows
end L2
namespace L2
theorem iteN {c A B:Prop} [Decidable c] (hc:¬ c) (h:B):if c then A else B:=by rw [if_neg hc]; exact h
end L2
namespace L2
end L2
namespace L2
open PySem PySem.Spec PyProof.Rows
mutual
inductive Deep (K:PySem.W.Frag) (H:Hp):V→PyData→Prop
  | non:Deep K H .non .none
  | bl (b:Bool):Deep K H (.bl b) (.bool b)
  | int (i:Int):Deep K H (.int i) (.int i)
  | str (x:Str):Deep K H (.str x) (.str x)
  | tup {a:Addr} {xs:List V} {ds:List PyData}:SqT K H a xs→DeepAll K H xs ds→Deep K H (.ref a) (.tuple ds)
  | lst {a:Addr} {xs:List V} {ds:List PyData}:SqL K H a xs→DeepAll K H xs ds→Deep K H (.ref a) (.list ds)
inductive DeepAll (K:PySem.W.Frag) (H:Hp):List V→List PyData→Prop
  | nil:DeepAll K H [] []
  | cons {x:V} {d:PyData} {xs:List V} {ds:List PyData}:Deep K H x d→DeepAll K H xs ds→DeepAll K H (x :: xs) (d :: ds)
end
section
variable {X:Cx} {pins:List (Addr×Obj)} {σ:St} {H:Hp} {s:Shared}
mutual
theorem deep_reads (I:Inv X pins σ H s):∀ {x:V} {d:PyData} {u:Value},Deep X.K H x d→RelV x u→∃ as,Reads s.heap u d as
  | _,_,u,.non,r=>by cases (show u=Value.none from r); exact ⟨_,.none⟩
  | _,_,u,.bl b,r=>by cases (show u=Value.bool b from r); exact ⟨_,.bool b⟩
  | _,_,u,.int i,r=>by obtain ⟨t,rfl⟩:=(show ∃ t,u=Value.int i t from r); exact ⟨_,.int i t⟩
  | _,_,u,.str x,r=>by obtain ⟨t,rfl⟩:=(show ∃ t,u=Value.str x t from r); exact ⟨_,.str x t⟩
  | _,_,u,.tup (a:=a) q h,r=>by
    cases (show u=Value.ref a from r)
    obtain ⟨its,rv,⟨o,e,c,n,d⟩,hz⟩:=I.tuple q
    obtain ⟨as,ra⟩:=deep_readsAll I h rv
    exact ⟨as,reads_tuple_at e c d (by simpa using ra)⟩
  | _,_,u,.lst (a:=a) q h,r=>by
    cases (show u=Value.ref a from r)
    obtain ⟨its,rv,⟨o,n,e,c,_,d⟩,hz⟩:=I.list q
    obtain ⟨as,ra⟩:=deep_readsAll I h rv
    exact ⟨_,reads_list_at e c d (by simpa using ra)⟩
theorem deep_readsAll (I:Inv X pins σ H s):∀ {xs:List V} {ds:List PyData} {us:List Value},DeepAll X.K H xs ds→Vals xs us→∃ as,ReadsAll s.heap us ds as
  | _,_,_,.nil,.nil=>⟨_,.nil⟩
  | _,_,_,.cons d h,.cons r t=>by
    obtain ⟨as,q⟩:=deep_reads I d r
    obtain ⟨bs,p⟩:=deep_readsAll I h t
    exact ⟨_,.cons q p⟩
end
end
section
variable {X:Cx}
def rEqD (K:PySem.W.Frag):R2:=fun x y H Q=>∃ d e,Deep K H x d∧Deep K H y e∧PySem.SeqAt.shaped d=true∧PySem.SeqAt.shaped e=true∧Q (.bl (PyData.eqv d e)) H
def rNeD (K:PySem.W.Frag):R2:=fun x y H Q=>∃ d e,Deep K H x d∧Deep K H y e∧PySem.SeqAt.shaped d=true∧PySem.SeqAt.shaped e=true∧Q (.bl (!PyData.eqv d e)) H
theorem op_eqD (hu:X.A.units+64<cLine):OpR X (compareOp .Eq) (rEqD X.K):=by
  intro pins s σ H x y v u Q I rx ry h
  obtain ⟨d,e,hd,he,sd,se,q⟩:=h
  obtain ⟨as,ra⟩:=deep_reads I hd rx
  obtain ⟨bs,rb⟩:=deep_reads I he ry
  exact eq_dataH ra rb sd se hu ⟨.bl _,H,I,rfl,q⟩
theorem op_neD (hu:X.A.units+64<cLine):OpR X (compareOp .NotEq) (rNeD X.K):=by
  intro pins s σ H x y v u Q I rx ry h
  obtain ⟨d,e,hd,he,sd,se,q⟩:=h
  obtain ⟨as,ra⟩:=deep_reads I hd rx
  obtain ⟨bs,rb⟩:=deep_reads I he ry
  exact ne_dataH ra rb sd se hu ⟨.bl _,H,I,rfl,q⟩
end
theorem same_new {H:Hp} {a:Addr} {o:HO} (h:H a=none):Same H (upd H a o):=fun b u e=>by rw [upd_ne (ne_of_none e h)]; exact e
end L2
namespace L2
open PySem PySem.Spec PyProof.Rows
def Ite (K:PySem.W.Frag) (a:Addr):It :=
  ⟨fun i H=>∃ xs x,SqL K H a xs∧xs[i]? = some x,
   fun i H y H'=>∃ p x,y = .ref p∧H p=none∧(∀ xs,SqL K H a xs→xs[i]? = some x)∧H'=upd H p (.tup [.int i,x]),
   fun i H=>∃ xs,SqL K H a xs∧xs.length≤i⟩
theorem turn_enum {P:Program} {w:World} {K:PySem.W.Frag} {elts:List Expr} {x1} {pos:Pos} (a e it:Addr) (hei:e≠it) :
    Turn P w K (.Tuple elts x1 pos) (Ite K a) [e,it] e (fun i h=>(∃ old,IsEnum h e it ((i:Nat):Int) old)∧h.IsListIter it a i) where
  mem:=by simp
  obj:=fun i h st b hb=>by
    obtain ⟨⟨old,he⟩,hit⟩:=st
    rcases List.mem_cons.mp hb with rfl | hb
    · exact ⟨_,he,fun v z=>by cases z⟩
    · have e:b=it:=by simpa using hb
      subst e
      obtain ⟨o,e,c,d⟩:=hit
      exact ⟨o,e,fun v z=>by rw [d] at z; cases z⟩
  keep:=fun i h h' st k=>by
    obtain ⟨⟨old,he⟩,hit⟩:=st
    exact ⟨⟨old,k e (by simp) _ he⟩,hit.at fun o q=>k it (by simp) o q⟩
  item:=by
    intro X hP hw hK hc i pins s σ H E I hf st hg
    subst hP hw hK
    obtain ⟨⟨old,he⟩,hit⟩:=st
    obtain ⟨xs,x,hq,hx⟩:=hg
    obtain ⟨its,rv,p,hz⟩:=I.list hq
    obtain ⟨u,hu,ru⟩:=rv.get hx
    obtain ⟨f0,f1,f2,f3,f4,f5⟩:=hf e (by simp)
    obtain ⟨g0,g1,g2,g3,g4,g5⟩:=hf it (by simp)
    have hes:e<s.heap.objs.size:=Heap.lt_size he
    have his:it<s.heap.objs.size:=by obtain ⟨o,q,_⟩:=id hit; exact Heap.lt_size q
    refine wpAny_pyNext_enum_item he hit p.isList (x:=u) (by simpa using hu) hei fun h1 heo hit1 ht1 hz1 hk1=>?_
    refine ⟨.ref s.heap.objs.size,rfl,wpAny_letOwnedTupleGo_enum heo fun h2 he2 hs2=>?_⟩
    have hs2':Heap.SameBut e h1 h2:=hs2
    have hit2:h2.IsListIter it a (i+1):=hit1.at fun o q=>(hs2'.2 it (Ne.symm hei)).trans q
    have fresh:H s.heap.objs.size=none:=I.hok.fresh (Nat.le_refl _)
    have htup:h2.get? s.heap.objs.size=some { cls:=.type "tuple", data:=.seq #[.int i s.toks,u] }:=(hs2'.2 _ (Nat.ne_of_gt hes)).trans ht1
    have nit:∀ b v,H b=some v→b≠e∧b≠it:=fun b v q=>⟨fun z=>(by rw [z,f0] at q; cases q),fun z=>(by rw [z,g0] at q; cases q)⟩
    have k2:∀ b o,b≠e→b≠it→s.heap.get? b=some o→h2.get? b=some o:=fun b o n1 n2 q=>(hs2'.2 b n1).trans (hk1 b o n1 n2 q)
    have up:∀ b o,H b=some o→(upd H s.heap.objs.size (.tup [.int i,x])) b=some o:=fun b o q=>by rw [upd_ne (ne_of_none q fresh)]; exact q
    have I2:Inv X pins σ (upd H s.heap.objs.size (.tup [.int i,x])) { s with heap:=h2,toks:=s.toks+1 }:=by
      refine I.step (g':=s.gens) (d':=s.drawn) (ch:=[e,it]) (fun b hb=>?_) (fun b o _ _ hc q _=>k2 b o (fun z=>hc (by simp [z])) (fun z=>hc (by simp [z])) q)
        (fun b o _ _ hc q _=>⟨o.slots,k2 b o (fun z=>hc (by simp [z])) (fun z=>hc (by simp [z])) q⟩) (fun b o _ q n=>by rw [upd_ne (Nat.ne_of_lt (Heap.lt_size q))]; exact n)
        (fun b o hc q=>?_) (fun b ys q=>up b _ q) (fun b ob v q=>up b _ q) (fun b ps q=>⟨#[],by rw [up b _ q]; simp⟩) (fun m hm=>?_) (fun b v q=>?_) I.bare
      · rcases List.mem_cons.mp hb with rfl | hb
        · exact ⟨f3,f1,f4,f5⟩
        · have z:b=it:=by simpa using hb
          subst z
          exact ⟨g3,g1,g4,g5⟩
      · exact ⟨o,k2 b o (fun z=>hc (by simp [z])) (fun z=>hc (by simp [z])) q⟩
      · obtain ⟨o,es,ep,ho,r⟩:=hm
        exact ⟨o,es,ep,k2 _ o (Ne.symm f1) (Ne.symm g1) ho,r⟩
      · by_cases hb:b=s.heap.objs.size
        · subst hb
          rw [upd_same] at q
          cases q
          exact ⟨by show 2≤sizeLine; decide,[.int i s.toks,u],.cons ⟨_,rfl⟩ (.cons ru .nil),_,htup,rfl,_,rfl⟩
        · rw [upd_ne hb] at q
          refine (I.hok b v q).stay (fun c v' hc q'=>?_) (fun c z=>up c _ z) fun c ys z=>up c _ z
          have hcn:c≠e∧c≠it:=by
            rcases hc with z | z
            · rw [z]; exact nit b v q
            · exact nit c _ z
          exact k2 c v' hcn.1 hcn.2 q'
    refine ⟨.ref s.heap.objs.size,_,I2,rfl,⟨s.heap.objs.size,x,rfl,fresh,fun ys hy=>by rw [I.list_inj hy hq]; exact hx,rfl⟩,⟨⟨u,by simpa using he2⟩,hit2⟩,fun b hb=>?_⟩
    rw [upd_ne]
    · exact (hf b hb).1
    · intro z
      rcases List.mem_cons.mp hb with y | y
      · rw [y] at z; exact absurd z (Nat.ne_of_lt hes)
      · have y:b=it:=by simpa using y
        rw [y] at z; exact absurd z (Nat.ne_of_lt his)
  done:=by
    intro X hP hw hK hc i pins s σ H E I hf st hg
    subst hP hw hK
    obtain ⟨⟨old,he⟩,hit⟩:=st
    obtain ⟨xs,hq,hx⟩:=hg
    obtain ⟨its,rv,p,hz⟩:=I.list hq
    obtain ⟨g0,g1,g2,g3,g4,g5⟩:=hf it (by simp)
    have hl:=rv.length
    exact wpAny_pyNext_enum_end (I.ok.hd hc) he hit p.isList (by simp; omega) fun h' eb=>⟨rfl,I.turned (t':=s.toks) (fun b o hb q=>eb b o hb q) g0 g1 g3 g4 g5⟩
  self:=fun _ _ _ _ _ st h=>by
    obtain ⟨⟨old,he⟩,_⟩:=st
    exact wpAny_pyIter_enum he h
section
variable {X:Cx}
def iEnum (K:PySem.W.Frag) (ta:TA):TI:=fun σ H R=>ta σ H fun vs H1=>∃ a,vs = [.ref a]∧(∃ xs,SqL K H1 a xs)∧R (Ite K a) H1
theorem pi_enum {l:Expr} {ta:TA} {p pos tpos:Pos} {elts:List Expr} {x1} (hg:Gl X "enumerate") (hm:X.mg "enumerate" = none) (ha:PA X [l] ta) (hs:starEach [l] X.env = [(false,eval l X.env)]:=by rfl) :
    PI X (.Tuple elts x1 tpos) (.Call (.Name "enumerate" p) [l] [] pos) (iEnum X.K ta):=by
  intro pins s σ H R I h
  refine Call_ (ld_blt I hg hm boot_enumerate (PyProof.Rows.callWith_type1 (thn (ha pos pins s σ H _ I h) fun us s1 ⟨vs,H1,I1,r1,q1⟩=>?_) hs rfl))
  obtain ⟨a,rfl,⟨xs,hq⟩,q⟩:=q1
  obtain ⟨u,rfl,r⟩:=Vals.one r1
  cases r
  obtain ⟨its,rv,p,hz⟩:=I1.list hq
  refine call_enumerate_list p.isList fun h' he hit hsz hk=>?_
  refine wpAny_pyIter_enum he ?_
  refine ⟨s1.heap.objs.size+1,[s1.heap.objs.size+1,s1.heap.objs.size],_,_,H1,rfl,I1.kept (t':=s1.toks) hk,turn_enum a _ _ (Nat.succ_ne_self _),⟨⟨_,he⟩,hit⟩,fun b hb=>?_,q⟩
  rcases List.mem_cons.mp hb with e | e
  · subst e; exact I1.fpOk (Nat.le_succ _) (I1.hok.fresh (Nat.le_succ _))
  · have e:b=s1.heap.objs.size:=by simpa using e
    subst e
    exact I1.fpOk (Nat.le_refl _) (I1.hok.fresh (Nat.le_refl _))
end
theorem for_enum {K:PySem.W.Frag} {a:Addr} {xs:List V} {g:TG} {tb:TS} {D:Ends} {σ:St} {H:Hp} (Pv:Nat→St→Hp→Prop) (h0:Pv 0 σ H) (hl:∀ i σ H,i≤xs.length→Pv i σ H→SqL K H a xs)
    (hs:∀ i x σ H p,xs[i]? = some x→Pv i σ H→H p=none→g (.ref p) σ (upd H p (.tup [.int i,x])) fun σ2 H2=>tb { D with nx:=Pv (i+1),ct:=Pv (i+1),bk:=D.nx } σ2 H2) (hd:∀ σ H,Pv xs.length σ H→D.nx σ H) :
    ∃ W:Nat→Nat→St→Hp→Prop,(∃ m,W 0 m σ H)∧∀ i m σ H,W i m σ H →
      ((Ite K a).stop i H∧D.nx σ H)∨((Ite K a).go i H∧∃ N:St→Hp→Prop,(∀ σ' H',N σ' H'→∃ m',m' < m∧W (i+1) m' σ' H')∧∀ x H',(Ite K a).yld i H x H'→g x σ H' fun σ2 H2=>tb { D with nx:=N,ct:=N,bk:=D.nx } σ2 H2):=by
  refine ⟨fun i m σ H=>m=xs.length-i∧i≤xs.length∧Pv i σ H,⟨xs.length,by simp,Nat.zero_le _,h0⟩,?_⟩
  rintro i m σ H ⟨rfl,hi,p⟩
  have q:=hl i σ H hi p
  by_cases hlt:i<xs.length
  · refine .inr ⟨⟨xs,xs[i],q,by simp [hlt]⟩,Pv (i+1),fun σ' H' p'=>⟨xs.length-(i+1),by omega,rfl,hlt,p'⟩,fun y H' z=>?_⟩
    obtain ⟨b,x,rfl,hb,hx,rfl⟩:=z
    exact hs i x σ H b (hx xs q) p hb
  · have e:i=xs.length:=by omega
    subst e
    exact .inl ⟨⟨xs,q,Nat.le_refl _⟩,hd σ H p⟩
section
variable {prog:Program} {w:World} {A:Around} {R:Result→Shared→Prop} {s:Shared}
theorem codeAny_compLoop_go {elt target iter:Expr} {ifs:List Expr} {scope:Scope} {pos:Pos} {it acc:Value} {env:Env} (I:Nat→Shared→Prop)
    (turn:∀ n s,I n s→wpAny (model prog w) A (pyNext it) (fun r s₁=>match r with
      | none=>R (.ok .next) s₁
      | some v=>wpAny (model prog w) A (letOwnedTupleGo target it v) (fun _ s₁'=>wpAny (model prog w) A (assign target env v) (fun _ s₂ =>
          wpAny (model prog w) A (forIn ifs true fun c r=>if r=true then do let ok ← isTrue c env (eval c env); pure (ForInStep.yield ok) else pure (ForInStep.yield r)) (fun ok s₃ =>
            if ok=true then wpAny (model prog w) A (eval elt env) (fun x s₄ =>
              wpAny (model prog w) A (call (.builtin "list.append") [acc,x]) (fun _ s₅=>∃ m,m<n∧I m s₅) (notedBy (model prog w) A env fun e s'=>R (.error e) s') s₄) (notedBy (model prog w) A env fun e s'=>R (.error e) s') s₃
            else ∃ m,m<n∧I m s₃) (notedBy (model prog w) A env fun e s'=>R (.error e) s') s₂) (notedBy (model prog w) A env fun e s'=>R (.error e) s') s₁') (notedBy (model prog w) A env fun e s'=>R (.error e) s') s₁) (notedBy (model prog w) A env fun e s'=>R (.error e) s') s)
    (n:Nat) (h:I n s) :
    codeAny (model prog w) A (.compLoop (.ListComp elt [⟨target,iter,ifs,0⟩] scope pos) 0 it acc env) R s:=by
  refine codeAny_loop rfl I (fun n s hI=>?_) n h
  show wpAny _ A ((compTurn (.ListComp elt [⟨target,iter,ifs,0⟩] scope pos) 0 it acc env).onRaise (fun x=>do noteFrame x env; theTreesLotGoes x)) _ _ s
  refine wpAny_noted ?_
  rw [compTurn_list]
  refine wpAny_bind (wpAny_standAt (wpAny_bind (wpAny_mono (turn n s hI) (fun r s₁ h₁=>?_) fun _ _ h'=>h')))
  cases r with
  | none=>exact wpAny_pure h₁
  | some v =>
    refine wpAny_bind (wpAny_mono h₁ (fun _ s₁' h₁'=>?_) fun _ _ h'=>h')
    refine wpAny_bind (wpAny_mono h₁' (fun _ s₂ h₂=>wpAny_bind (wpAny_mono h₂ (fun ok s₃ h₃=>?_) fun _ _ h'=>h')) fun _ _ h'=>h')
    cases ok with
    | false=>exact wpAny_pure ⟨rfl,h₃⟩
    | true =>
      exact wpAny_bind (wpAny_bind (wpAny_mono h₃ (fun x s₄ h₄=>wpAny_bind (wpAny_mono h₄ (fun _ s₅ h₅=>wpAny_pure (wpAny_pure ⟨rfl,h₅⟩)) fun _ _ h'=>h')) fun _ _ h'=>h'))
end
def cxComp (X:Cx) (scope:Scope) (cl:List (Str×Addr)) (N:List Str) (fp:List Addr) (s:Shared) (H:Hp):Cx :=
  { X with N:=N,s₀:=s,H₀:=H,env:=compEnvC scope cl s.heap.objs.size X.env,outer:=X.stack,stack:=X.stack,ex:=fp,fn:=fun _=>false,pn:=[],xe:=fun _ _=>False }
def FrOk (X:Cx) (sc:Scope):List (Str×Nat)→Prop
  | []=>True
  | p :: r=>(X.N[p.2]? = some p.1∧sc.names.lookup p.1=some .cell∧X.env.kindOf p.1=some .cell)∧FrOk X sc r
theorem FrOk.mem {X:Cx} {sc:Scope}:∀ {l:List (Str×Nat)},FrOk X sc l→∀ p∈l,X.N[p.2]? = some p.1∧sc.names.lookup p.1=some .cell∧X.env.kindOf p.1=some .cell
  | [],_,p,hp=>nomatch hp
  | q :: r,h,p,hp=>by
    rcases List.mem_cons.mp hp with e | hp
    · rw [e]; exact h.1
    · exact FrOk.mem h.2 p hp
def PIfs (X:Cx) (ifs:List Expr) (t:TT):Prop :=
  ∀ (pins:List (Addr×Obj)) (s:Shared) (σ:St) (H:Hp) (Q:Bool→Hp→Prop),Inv X pins σ H s→t σ H Q →
    wpAny (model X.prog X.w) X.A (forIn ifs true fun c r=>if r=true then do let ok ← isTrue c X.env (eval c X.env); pure (ForInStep.yield ok) else pure (ForInStep.yield r)) (TP X pins σ Q) X.xe s
def tYes:TT:=fun _ H Q=>Q true H
theorem pifs_nil {X:Cx}:PIfs X [] tYes:=fun _ _ _ H _ I h=>wpAny_tests_nil ⟨H,I,h⟩
theorem pifs_one {X:Cx} {c:Expr} {t:TT} (hc:PT X c t):PIfs X [c] t:=fun pins s σ H Q I h=>wpAny_tests_one (hc pins s σ H Q I h)
def tComp (nt:Nat) (fr:List (Str×Nat)) (wi:TI) (g:TG) (tc:TT) (te:TE):TE:=fun σ H Q=>wi σ H fun J H1=>∀ D,H1 D=none→∃ W:Nat→Nat→St→Hp→Prop,
  (∃ m,W 0 m (List.replicate nt none++fr.map fun p=>(σ[p.2]?).join) (upd H1 D (.lst [])))∧∀ i m τ H',W i m τ H' →
    (J.stop i H'∧Q (.ref D) H')∨(J.go i H'∧∃ N:St→Hp→Prop,(∀ τ' H'',N τ' H''→∃ m',m' < m∧W (i+1) m' τ' H'') ∧
      ∀ x H2,J.yld i H' x H2→g x τ H2 fun τ2 H3=>tc τ2 H3 fun b H4=>if b=true then te τ2 H4 fun y H5=>∃ ys,H5 D=some (.lst ys)∧ys.length<sizeLine∧N τ2 (upd H5 D (.lst (ys++[y]))) else N τ2 H4)
section
variable {X:Cx}
theorem cx_start {scope:Scope} {cl:List (Str×Addr)} {ts:List Str} {fr:List (Str×Nat)} {fp:List Addr} {pins:List (Addr×Obj)} {σ:St} {H:Hp} {s:Shared} {h':Heap} {m:Str→Option Value} {t':Nat} (I:Inv X pins σ H s)
    (hkind:scope.kind = .function) (hcl:∀ x c,cl.lookup x=some c→X.env.cells.lookup x=some c)
    (hhas:∀ x,((relabel scope X.env).names.lookup x=some .cell∨(relabel scope X.env).names.lookup x=some .free)→∃ c,cl.lookup x=some c) (hfr:FrOk X (relabel scope X.env) fr)
    (hfp:∀ b∈fp,FpOk X pins H b∧b<s.heap.objs.size) (hn:h'.Ns s.heap.objs.size m) (hk:∀ b o,s.heap.get? b=some o→h'.get? b=some o) :
    Inv (cxComp X scope cl (ts++fr.map (·.1)) fp s H) [] (List.replicate ts.length none++fr.map fun p=>(σ[p.2]?).join) H { s with heap:=h',toks:=t' }:=by
  have cellK:∀ c v,s.heap.IsCell c v→h'.IsCell c v:=fun c v ⟨o,ho,hd⟩=>⟨o,hk c o ho,hd⟩
  refine ⟨⟨I.ok.mod,hkind,I.ok.glob,I.ok.blt,Nat.le_refl _,fun x y c h1 h2=>I.ok.inj x y c (hcl x c h1) (hcl y c h2),hhas,fun x c h=>(by cases h),I.ok.hd,I.ok.frames,.inl rfl,fun b hb=>?_,I.bs,Nat.le_trans I.ok.bsz I.sz,fun b o e hb=>?_,fun b hb z=>?_,I.stack,I.stkFree⟩,
    rfl,I.bare,Un.kept hk,⟨m,hn,fun i x v e1 e2 e3=>?_⟩,fun x c e=>?_,I.hok.fresh (Nat.le_refl _),fun x c e=>I.freeC x c (hcl x c e),fun p hp=>absurd (show p∈([]:List (Addr×Obj)) from hp) (by simp),I.hok.kept hk,?_⟩
  · obtain ⟨f,lt⟩:=hfp b hb
    exact ⟨Nat.ne_of_lt lt,fun x c e=>f.2.2.2.2.1 x c (hcl x c e)⟩
  · obtain ⟨f,lt⟩:=hfp b hb
    rcases f.2.2.2.1 with z | z
    · exact I.ok.noex b o e z
    · exact absurd (Nat.lt_of_lt_of_le (Heap.lt_size e) (Nat.le_trans I.ok.bsz z)) (Nat.lt_irrefl _)
  · obtain ⟨f,lt⟩:=hfp b hb
    rcases List.mem_cons.mp (I.stkSub b z) with y | y
    · exact f.2.1 y
    · exact f.2.2.1 y
  · have hlen:(List.replicate ts.length (none:Option V)).length=ts.length:=by simp
    by_cases hi:i<ts.length
    · rw [List.getElem?_append_left (by rw [hlen]; exact hi),List.getElem?_replicate,if_pos hi] at e2
      cases e2
    · rw [List.getElem?_append_right (by rw [hlen]; omega),hlen,List.getElem?_map] at e2
      have e1':(ts++fr.map (·.1))[i]? = some x:=e1
      rw [List.getElem?_append_right (by omega),List.getElem?_map] at e1'
      cases ep:fr[i-ts.length]? with
      | none=>rw [ep] at e2; cases e2
      | some p =>
        rw [ep] at e1' e2
        have ex:p.1=x:=Option.some.inj e1'
        have ev:(σ[p.2]?).join=some v:=Option.some.inj e2
        obtain ⟨a1,a2,a3⟩:=hfr.mem p (List.mem_of_getElem? ep)
        have ev':σ[p.2]? = some (some v):=by
          cases q:σ[p.2]? with
          | none=>rw [q] at ev; cases ev
          | some o=>rw [q] at ev; cases o with
            | none=>cases ev
            | some v'=>cases ev; rfl
        obtain ⟨m',hn',hl'⟩:=I.loc
        obtain ⟨u,ru,lk⟩:=hl' p.2 p.1 v a1 ev' (.inr (.inl a3))
        subst ex
        refine ⟨u,ru,?_⟩
        rcases lk with ⟨z,_⟩ | ⟨_,c,ec,z⟩
        · rw [z] at a3; cases a3
        · obtain ⟨c',ec'⟩:=hhas p.1 (.inl a2)
          have ecc:c'=c:=Option.some.inj ((hcl _ _ ec').symm.trans ec)
          exact .inr ⟨.inl a2,c',ec',(by rw [ecc]; exact cellK _ _ z)⟩
  · obtain ⟨v,z⟩:=I.cell x c (hcl x c e)
    exact ⟨v,cellK _ _ z⟩
  · show _=(ts++fr.map (·.1)).length
    simp
theorem pe_comp {elt target iter:Expr} {ifs:List Expr} {scope:Scope} {pos:Pos} {cl:List (Str×Addr)} {ts:List Str} {fr:List (Str×Nat)} {wi:TI} {g:TG} {tc:TT} {te:TE} (hcalm:X.calm=true)
    (hclos:closureFor scope X.env=pure cl) (hcell:∀ y∈scope.names,y.2≠.cell) (hkind:scope.kind = .function) (hnames:∀ y∈scope.names,y.2 = .local→scope.names.lookup y.1=some .local)
    (hcl:∀ x c,cl.lookup x=some c→X.env.cells.lookup x=some c)
    (hhas:∀ x,((relabel scope X.env).names.lookup x=some .cell∨(relabel scope X.env).names.lookup x=some .free)→∃ c,cl.lookup x=some c) (hfr:FrOk X (relabel scope X.env) fr)
    (hi:PI X target iter wi) (hg:∀ fp s H,PG (cxComp X scope cl (ts++fr.map (·.1)) fp s H) target g) (hc:∀ fp s H,PIfs (cxComp X scope cl (ts++fr.map (·.1)) fp s H) ifs tc)
    (he:∀ fp s H,PE (cxComp X scope cl (ts++fr.map (·.1)) fp s H) elt te) (hs:∀ x,foldedSetIterable iter X.env x=pure x:=by intro _; rfl) :
    PE X (.ListComp elt [⟨target,iter,ifs,0⟩] scope pos) (tComp ts.length fr wi g tc te):=by
  intro pins s σ H Q I h
  rw [eval_ListComp]
  refine wpAny_comprehension_free (use:=none) rfl hs hclos hkind hnames (thn (hi pins s σ H _ I h) fun xv s1 h1=>thn h1 fun itv s2 h2=>?_)
  obtain ⟨it,fp,tn,J,H2,rfl,I2,T,st2,f2,hR⟩:=h2
  have D0:H2 s2.heap.objs.size=none:=I2.hok.fresh (Nat.le_refl _)
  obtain ⟨W,⟨m0,w0⟩,turn⟩:=hR s2.heap.objs.size D0
  refine wpAny_newObj_type (wpAny_newFunctionEnv hcell (by intro y hy; simp at hy) (fun h₁ hns₁ hsb₁=>?_) hkind)
  dsimp only at hns₁ hsb₁ ⊢
  have I3:Inv X pins σ (upd H2 s2.heap.objs.size (.lst [])) { s2 with heap:=s2.heap.push { cls:=.type "list", dict:=none,data:=.seq ([]:List Value).toArray } } :=
    I2.laid (t':=s2.toks) (fun _ _ q=>Heap.get?_push_of_some _ q) (Nat.le_refl _) ⟨Nat.zero_le _,[],0,.nil,Heap.get?_push_size _ rfl⟩
  have kp3:∀ b o,s2.heap.get? b=some o→(s2.heap.push { cls:=.type "list", dict:=none,data:=.seq ([]:List Value).toArray }).get? b=some o:=fun b o q=>Heap.get?_push_of_some _ q
  have sz3:(s2.heap.push { cls:=.type "list", dict:=none,data:=.seq ([]:List Value).toArray }).objs.size=s2.heap.objs.size+1:=Heap.size_push ..
  generalize s2.heap.push { cls:=.type "list", dict:=none,data:=.seq ([]:List Value).toArray } = hp3 at hns₁ hsb₁ I3 kp3 sz3 ⊢
  have kp:∀ b o,hp3.get? b=some o→h₁.get? b=some o:=fun b o e=>hsb₁.extBut b o (Nat.ne_of_lt (Heap.lt_size e)) (Heap.get?_push_of_some _ e)
  have flt:∀ b∈fp,b<s2.heap.objs.size:=fun b hb=>by
    obtain ⟨o,e,_⟩:=T.obj _ _ st2 b hb
    exact Heap.lt_size e
  have fr3:∀ b∈fp,(upd H2 s2.heap.objs.size (.lst [])) b=none:=fun b hb=>by rw [upd_ne (Nat.ne_of_lt (flt b hb))]; exact (f2 b hb).1
  have f3:∀ b∈fp,FpOk X pins (upd H2 s2.heap.objs.size (.lst [])) b∧b<hp3.objs.size:=fun b hb=>⟨⟨fr3 b hb,(f2 b hb).2⟩,by rw [sz3]; exact Nat.lt_succ_of_lt (flt b hb)⟩
  have I4:=cx_start (ts:=ts) (t':=s2.toks+([]:List (Str×Value)).length) I3 hkind hcl hhas hfr f3 hns₁ kp
  have st4:tn 0 h₁:=T.keep _ _ _ st2 fun b hb o e=>kp b o (kp3 b o e)
  have loop:codeAny (model X.prog X.w) X.A (.compLoop (.ListComp elt [⟨target,iter,ifs,0⟩] scope pos) 0 (.ref it) (.ref s2.heap.objs.size) (compEnvC scope cl hp3.objs.size X.env))
      (compPost (model X.prog X.w) X.A X.xe none (EP X pins σ Q) (.ref s2.heap.objs.size) hp3.objs.size) { s2 with heap:=h₁,toks:=s2.toks+([]:List (Str×Value)).length }:=by
    refine codeAny_compLoop_go (fun n s'=>∃ i τ H',Inv (cxComp X scope cl (ts++fr.map (·.1)) fp { s2 with heap:=hp3 } (upd H2 s2.heap.objs.size (.lst []))) [] τ H' s'∧tn i s'.heap∧(∀ b∈fp,H' b=none)∧W i n τ H') ?_ m0 ⟨0,_,_,I4,st4,fr3,w0⟩
    rintro n s5 ⟨i,τ,H5,I5,st5,fr5,w5⟩
    have stat:∀ {H':Hp},(∀ b∈fp,H' b=none)→∀ b∈fp,FpOk (cxComp X scope cl (ts++fr.map (·.1)) fp { s2 with heap:=hp3 } (upd H2 s2.heap.objs.size (.lst []))) [] H' b :=
      fun hn b hb=>⟨hn b hb,(I5.ok.exf b hb).1,I5.ok.exfs b hb,.inl hb,(I5.ok.exf b hb).2,fun p hp=>absurd (show p∈([]:List (Addr×Obj)) from hp) (by simp)⟩
    rcases turn i n τ H5 w5 with ⟨stop,qn⟩ | ⟨go,Nn,hN,step⟩
    · refine thn (T.done (cxComp X scope cl (ts++fr.map (·.1)) fp { s2 with heap:=hp3 } (upd H2 s2.heap.objs.size (.lst []))) rfl rfl rfl hcalm i [] s5 τ H5 _ I5 (stat fr5) st5 stop) fun r s6 ⟨hr,I6⟩=>?_
      subst hr
      obtain ⟨m,hn,_⟩:=I6.loc
      refine ⟨m,hn,fun h' hs'=>⟨.ref s2.heap.objs.size,H5,?_,rfl,qn⟩⟩
      have neC:∀ b o,hp3.get? b=some o→b≠hp3.objs.size:=fun b o e=>Nat.ne_of_lt (Heap.lt_size e)
      have hs'':Heap.SameBut hp3.objs.size s6.heap h':=hs'
      refine I3.call' (s':={ s6 with heap:=h' }) (ch:=fp) I6.os ⟨fun b o e n hb hx=>?_,fun b o e n hb hx=>?_,I6.base.free,fun b o e hx=>?_,I6.base.tups,I6.base.frzs,I6.base.tbls⟩ (fun b ob e=>?_) I6.bare (fun b hb=>?_)
      · exact (hs''.2 b (neC b o e)).trans (I6.base.keep b o e n hb hx)
      · obtain ⟨sl,q⟩:=I6.base.slot b o e n hb hx
        exact ⟨sl,(hs''.2 b (neC b o e)).trans q⟩
      · obtain ⟨o',q⟩:=I6.base.there b o e hx
        exact ⟨o',(hs''.2 b (neC b o e)).trans q⟩
      · refine (I6.hok b ob e).stay (fun c v hc q=>(hs''.2 c ?_).trans q) (fun _ q=>q) fun _ _ q=>q
        intro z
        have fz:H5 hp3.objs.size=none:=I6.free
        rcases hc with y | y
        · rw [← y,z,fz] at e; cases e
        · rw [z,fz] at y; cases y
      · exact ⟨(f2 b hb).2.2.2.1,(f2 b hb).2.1,(f2 b hb).2.2.2.2.1,(f2 b hb).2.2.2.2.2⟩
    · refine thn (T.item (cxComp X scope cl (ts++fr.map (·.1)) fp { s2 with heap:=hp3 } (upd H2 s2.heap.objs.size (.lst []))) rfl rfl rfl hcalm i [] s5 τ H5 _ I5 (stat fr5) st5 go) fun r s6 ⟨u,hr,h6⟩=>?_
      subst hr
      refine thn h6 fun _ s7 ⟨x,H7,I7,r7,y7,st7,fr7⟩=>?_
      have I7':=I7.pinned (stat fr7) (T.obj _ _ st7)
      refine wpAny_mono (hg fp _ _ _ s7 τ H7 x u _ I7' r7 (step x H7 y7)) (fun _ s8 ⟨τ8,H8,I8,q8⟩=>?_) fun _ _ z=>False.elim z
      have again:∀ {τ9:St} {H9:Hp} {s9:Shared},Inv (cxComp X scope cl (ts++fr.map (·.1)) fp { s2 with heap:=hp3 } (upd H2 s2.heap.objs.size (.lst []))) ([]++pinsAt fp s7.heap) τ9 H9 s9→Nn τ9 H9 →
          ∃ m,m<n∧∃ i τ H',Inv (cxComp X scope cl (ts++fr.map (·.1)) fp { s2 with heap:=hp3 } (upd H2 s2.heap.objs.size (.lst []))) [] τ H' s9∧tn i s9.heap∧(∀ b∈fp,H' b=none)∧W i m τ H':=fun {τ9 H9 s9} I9 n9=>by
        obtain ⟨m',hm,w9⟩:=hN τ9 H9 n9
        refine ⟨m',hm,i+1,τ9,H9,I9.unpinned,T.keep _ _ _ st7 fun b hb o e=>(I9.pin (b,o) (List.mem_append_right _ (List.mem_append_right _ (mem_pinsAt hb e)))).1,fun b hb=>?_,w9⟩
        obtain ⟨o,e,d⟩:=T.obj _ _ st7 b hb
        exact (I9.pin (b,o) (List.mem_append_right _ (List.mem_append_right _ (mem_pinsAt hb e)))).2.1
      refine wpAny_mono (hc fp _ _ _ s8 τ8 H8 _ I8 q8) (fun ok s9 ⟨H9,I9,q9⟩=>?_) fun _ _ z=>False.elim z
      cases ok with
      | false=>exact again I9 q9
      | true =>
        refine wpAny_mono (he fp _ _ _ s9 τ8 H9 _ I9 q9) (fun y s10 ⟨v,H10,I10,rv,ys,hD,hl,qN⟩=>?_) fun _ _ z=>False.elim z
        refine wpAny_mono (mt_append (X:=cxComp X scope cl (ts++fr.map (·.1)) fp { s2 with heap:=hp3 } (upd H2 s2.heap.objs.size (.lst []))) _ s10 τ8 H10 (.ref s2.heap.objs.size) [v] (.ref s2.heap.objs.size) [y] (fun _ H=>Nn τ8 H) I10 rfl (.cons rv .nil) ⟨_,ys,v,rfl,rfl,hD,hl,qN⟩) (fun _ s11 ⟨_,H11,I11,_,q11⟩=>again I11 q11) fun _ _ z=>False.elim z
  exact codeAny_compStart_list loop (T.self X.A 0 _ _ _ st4 loop)
end
end L2
namespace L2
open PySem PySem.Spec PyProof.Rows
section
variable {X:Cx} {tg:Expr}
theorem ix_listK (K:PySem.W.Frag) (h:X.K=K):IxR X (rIxL K):=h ▸ ix_list
theorem ix_tupK (K:PySem.W.Frag) (h:X.K=K):IxR X (rIxT K):=h ▸ ix_tup
theorem sl_listK (K:PySem.W.Frag) (h:X.K=K):SlR X (rSlL K):=h ▸ sl_list
def rLen (K:PySem.W.Frag):List V→Hp→VK→Prop:=fun xs H Q=>∃ p ys,xs = [.ref p]∧(SqL K H p ys∨SqT K H p ys)∧Q (.int ys.length) H
theorem call_lenK (K:PySem.W.Frag) (h:X.K=K):CallR X (.builtin "len") (rLen K):=h ▸ call_len_seq
def rLst (K:PySem.W.Frag):List V→Hp→VK→Prop:=fun xs H Q=>∃ p ys,xs = [.ref p]∧(SqL K H p ys∨SqT K H p ys)∧∀ l,H l=none→Q (.ref l) (upd H l (.lst ys))
theorem call_listK (K:PySem.W.Frag) (h:X.K=K):CallR X (.type "list") (rLst K):=h ▸ call_list_of
theorem pg_tupK (K:PySem.W.Frag) (h:X.K=K) {es:List Expr} {k:Nat} {pos:Pos} {t:TGs} {n:Nat} (hc:X.calm=true) (hq:PGs X es t)
    (hn:(assignEach es X.env).length=n:=by rfl) (hst:(assignEach es X.env).findIdx? (·.1)=none:=by rfl):PG X (.Tuple es k pos) (gTup K n t):=h ▸ pg_tup hc hq hn hst
theorem pi_listK (K:PySem.W.Frag) (h:X.K=K) {l:Expr} {tl:TE} (hl:PE X l tl):PI X tg l (iList K tl):=h ▸ pi_list hl
theorem pi_enumK (K:PySem.W.Frag) (h:X.K=K) {l:Expr} {ta:TA} {p pos tpos:Pos} {elts:List Expr} {x1} (hg:Gl X "enumerate") (hm:X.mg "enumerate" = none) (ha:PA X [l] ta) (hs:starEach [l] X.env = [(false,eval l X.env)]:=by rfl) :
    PI X (.Tuple elts x1 tpos) (.Call (.Name "enumerate" p) [l] [] pos) (iEnum K ta):=h ▸ pi_enum hg hm ha hs
end
def ClOk (env:Env):List (Str×Addr)→Prop
  | []=>True
  | p :: r=>env.cells.lookup p.1=some p.2∧ClOk env r
theorem ClOk.get {env:Env}:∀ {cl:List (Str×Addr)},ClOk env cl→∀ x c,cl.lookup x=some c→env.cells.lookup x=some c
  | [],_,x,c,e=>by cases e
  | p :: r,h,x,c,e=>by
    obtain ⟨k,a⟩:=p
    rw [List.lookup_cons] at e
    by_cases q:x=k
    · subst q
      rw [beq_self_eq_true] at e
      cases e
      exact h.1
    · rw [beq_eq_false_iff_ne.mpr q] at e
      exact ClOk.get h.2 x c e
def clAll (ns:List (Str×NameKind)) (cl:List (Str×Addr)):Bool:=ns.all fun y=>match y.2 with
  | .cell=>(cl.lookup y.1).isSome
  | .free=>(cl.lookup y.1).isSome
  | _=>true
theorem clAll_get {ns:List (Str×NameKind)} {cl:List (Str×Addr)} (h:clAll ns cl=true) (x:Str) (q:ns.lookup x=some .cell∨ns.lookup x=some .free):∃ c,cl.lookup x=some c:=by
  unfold clAll at h
  rw [List.all_eq_true] at h
  rcases q with q | q
  · have:=h _ (PySem.mem_of_lookup q)
    exact Option.isSome_iff_exists.mp this
  · have:=h _ (PySem.mem_of_lookup q)
    exact Option.isSome_iff_exists.mp this
theorem pe_lc {X:Cx} {elt target iter:Expr} {ifs:List Expr} {scope:Scope} {pos:Pos} {cl:List (Str×Addr)} (ts:List Str) (fr:List (Str×Nat)) {wi:TI} {g:TG} {tc:TT} {te:TE} (hcalm:X.calm=true)
    (hclos:closureFor scope X.env=pure cl) (hcell:∀ y∈scope.names,y.2≠.cell) (hkind:scope.kind = .function) (hnames:∀ y∈scope.names,y.2 = .local→scope.names.lookup y.1=some .local)
    (hcl:ClOk X.env cl) (hhas:clAll (relabel scope X.env).names cl=true) (hfr:FrOk X (relabel scope X.env) fr)
    (hi:PI X target iter wi) (hg:∀ fp s H,PG (cxComp X scope cl (ts++fr.map (·.1)) fp s H) target g) (hc:∀ fp s H,PIfs (cxComp X scope cl (ts++fr.map (·.1)) fp s H) ifs tc)
    (he:∀ fp s H,PE (cxComp X scope cl (ts++fr.map (·.1)) fp s H) elt te) (hs:∀ x,foldedSetIterable iter X.env x=pure x:=by intro _; rfl) :
    PE X (.ListComp elt [⟨target,iter,ifs,0⟩] scope pos) (tComp ts.length fr wi g tc te) :=
  pe_comp hcalm hclos hcell hkind hnames hcl.get (fun x q=>clAll_get hhas x q) hfr hi hg hc he hs
end L2
namespace L2
open PySem PySem.Spec PyProof.Rows
def rSum (K:PySem.W.Frag):List V→Hp→VK→Prop:=fun xs H Q=>∃ (p:Addr) (ns:List Int),xs = [.ref p]∧SqL K H p (ns.map V.int)∧Q (.int ns.sum) H
section
variable {X:Cx}
theorem call_sumK (K:PySem.W.Frag) (h:X.K=K) (hc:X.calm=true):CallR X (.builtin "sum") (rSum K):=by
  subst h
  intro pins s σ H xs us Q I r h
  obtain ⟨p,ns,rfl,hq,q⟩:=h
  obtain ⟨u,rfl,ru⟩:=vals1 r
  cases (show u=Value.ref p from ru)
  obtain ⟨its,rv,hp,hz⟩:=I.list hq
  have hi:=intsAre_of rv
  obtain ⟨zs,e⟩:=hi.allInts.items
  have hl:=hp.isList
  rw [e] at hl
  refine sum_intListG (I.ok.hd hc) hl fun h' tk t' hk=>⟨.int ns.sum,H,I.kept (t':=tk) hk,⟨t',?_⟩,q⟩
  rw [preSum_eq,List.take_of_length_le (by simp)]
  have:=hi.numsOf
  rw [show its=its.toArray.toList from rfl,e,nums_intItems] at this
  rw [← this]
end
end L2
namespace L2
open PySem PySem.Spec PyProof.Rows
def CompG (J:It) (g:TG) (tc:TT) (te:TE) (D:Addr) (τ:St) (H:Hp) (Q:VK):Prop :=
  ∃ W:Nat→Nat→St→Hp→Prop,(∃ m,W 0 m τ H)∧∀ i m τ H',W i m τ H' →
    (J.stop i H'∧Q (.ref D) H')∨(J.go i H'∧∃ N:St→Hp→Prop,(∀ τ' H'',N τ' H''→∃ m',m' < m∧W (i+1) m' τ' H'') ∧
      ∀ x H2,J.yld i H' x H2→g x τ H2 fun τ2 H3=>tc τ2 H3 fun b H4=>if b=true then te τ2 H4 fun y H5=>∃ ys,H5 D=some (.lst ys)∧ys.length<sizeLine∧N τ2 (upd H5 D (.lst (ys++[y]))) else N τ2 H4)
theorem tComp_eq {nt:Nat} {fr:List (Str×Nat)} {wi:TI} {g:TG} {tc:TT} {te:TE} {σ:St} {H:Hp} {Q:VK} :
    tComp nt fr wi g tc te σ H Q=wi σ H fun J H1=>∀ D,H1 D=none→CompG J g tc te D (List.replicate nt none++fr.map fun p=>(σ[p.2]?).join) (upd H1 D (.lst [])) Q:=rfl
theorem comp_walk {K:PySem.W.Frag} {a:Addr} {xs:List V} {g:TG} {tc:TT} {te:TE} {D:Addr} {τ:St} {H:Hp} {Q:VK} (Pv:Nat→St→Hp→Prop) (h0:Pv 0 τ H) (hl:∀ i τ H,i≤xs.length→Pv i τ H→SqL K H a xs)
    (hs:∀ i x τ H,xs[i]? = some x→Pv i τ H→g x τ H fun τ2 H3=>tc τ2 H3 fun b H4=>if b=true then te τ2 H4 fun y H5=>∃ ys,H5 D=some (.lst ys)∧ys.length<sizeLine∧Pv (i+1) τ2 (upd H5 D (.lst (ys++[y]))) else Pv (i+1) τ2 H4)
    (hd:∀ τ H,Pv xs.length τ H→Q (.ref D) H) :
    CompG (Itl K a) g tc te D τ H Q:=by
  refine ⟨fun i m τ H=>m=xs.length-i∧i≤xs.length∧Pv i τ H,⟨xs.length,by simp,Nat.zero_le _,h0⟩,?_⟩
  rintro i m τ H ⟨rfl,hi,p⟩
  have q:=hl i τ H hi p
  by_cases hlt:i<xs.length
  · refine .inr ⟨⟨xs,xs[i],q,by simp [hlt]⟩,Pv (i+1),fun τ' H' p'=>⟨xs.length-(i+1),by omega,rfl,hlt,p'⟩,fun x H2 z=>?_⟩
    obtain ⟨rfl,hx⟩:=z
    exact hs i x τ H2 (hx xs q) p
  · have e:i=xs.length:=by omega
    subst e
    exact .inl ⟨⟨xs,q,Nat.le_refl _⟩,hd τ H p⟩
theorem comp_enum {K:PySem.W.Frag} {a:Addr} {xs:List V} {g:TG} {tc:TT} {te:TE} {D:Addr} {τ:St} {H:Hp} {Q:VK} (Pv:Nat→St→Hp→Prop) (h0:Pv 0 τ H) (hl:∀ i τ H,i≤xs.length→Pv i τ H→SqL K H a xs)
    (hs:∀ i x τ H p,xs[i]? = some x→Pv i τ H→H p=none→g (.ref p) τ (upd H p (.tup [.int i,x])) fun τ2 H3=>tc τ2 H3 fun b H4=>if b=true then te τ2 H4 fun y H5=>∃ ys,H5 D=some (.lst ys)∧ys.length<sizeLine∧Pv (i+1) τ2 (upd H5 D (.lst (ys++[y]))) else Pv (i+1) τ2 H4)
    (hd:∀ τ H,Pv xs.length τ H→Q (.ref D) H) :
    CompG (Ite K a) g tc te D τ H Q:=by
  refine ⟨fun i m τ H=>m=xs.length-i∧i≤xs.length∧Pv i τ H,⟨xs.length,by simp,Nat.zero_le _,h0⟩,?_⟩
  rintro i m τ H ⟨rfl,hi,p⟩
  have q:=hl i τ H hi p
  by_cases hlt:i<xs.length
  · refine .inr ⟨⟨xs,xs[i],q,by simp [hlt]⟩,Pv (i+1),fun τ' H' p'=>⟨xs.length-(i+1),by omega,rfl,hlt,p'⟩,fun y H2 z=>?_⟩
    obtain ⟨b,x,rfl,hb,hx,rfl⟩:=z
    exact hs i x τ H b (hx xs q) p hb
  · have e:i=xs.length:=by omega
    subst e
    exact .inl ⟨⟨xs,q,Nat.le_refl _⟩,hd τ H p⟩
theorem take_snoc {α:Type} {xs:List α} {i:Nat} {x:α} (h:xs[i]? = some x):xs.take (i+1)=xs.take i++[x]:=by
  rw [List.take_add_one,h]; rfl
theorem comp_pure {K:PySem.W.Frag} {a:Addr} {xs:List V} {g:TG} {tc:TT} {te:TE} {D:Addr} {v0:Option V} {caps:St} {H:Hp} {Q:VK} (F:V→Option V) (hD:H D=none) (hS:SqL K H a xs) (hlen:xs.length≤1000)
    (hs:∀ x∈xs,∀ (v:Option V) (H':Hp) (C:V→St→Hp→Prop) (N:St→Hp→Prop),Same H H'→(∀ y,F x=some y→C y (some x :: caps) H')→(F x=none→N (some x :: caps) H') →
      g x (v :: caps) H' fun τ2 H3=>tc τ2 H3 fun b H4=>if b=true then te τ2 H4 fun y H5=>C y τ2 H5 else N τ2 H4)
    (hd:Q (.ref D) (upd H D (.lst (xs.filterMap F)))) :
    CompG (Itl K a) g tc te D (v0 :: caps) (upd H D (.lst [])) Q:=by
  refine comp_walk (xs:=xs) (fun i τ H'=>(∃ v,τ = v :: caps)∧H'=upd H D (.lst ((xs.take i).filterMap F))) ⟨⟨_,rfl⟩,by simp⟩ (fun i τ H' _ ⟨_,e⟩=>by rw [e]; exact (same_new hD).seq hS) ?_ ?_
  · rintro i x τ H' hx ⟨⟨v,rfl⟩,rfl⟩
    have hi:i<xs.length:=(List.getElem?_eq_some_iff.mp hx).1
    refine hs x (List.mem_of_getElem? hx) v _ (fun y τ2 H5=>∃ ys,H5 D=some (.lst ys)∧ys.length<sizeLine∧(∃ v,τ2=v :: caps)∧upd H5 D (.lst (ys++[y]))=upd H D (.lst ((xs.take (i+1)).filterMap F)))
      (fun τ2 H4=>(∃ v,τ2=v :: caps)∧H4=upd H D (.lst ((xs.take (i+1)).filterMap F))) (same_new hD) (fun y e=>?_) fun e=>?_
    · refine ⟨_,upd_same,line_lt ?_,⟨_,rfl⟩,?_⟩
      · have:=List.length_filterMap_le F (xs.take i)
        rw [List.length_take] at this
        omega
      · rw [upd_upd,take_snoc hx,List.filterMap_append]; simp [e]
    · refine ⟨⟨_,rfl⟩,?_⟩
      rw [take_snoc hx,List.filterMap_append]; simp [e]
  · rintro τ H' ⟨_,rfl⟩
    rw [List.take_length]; exact hd
abbrev Q4:=Int×Int×Int×Int
def q4 (q:Q4):List V:=[.int q.1,.int q.2.1,.int q.2.2.1,.int q.2.2.2]
abbrev Tups (H:Hp):List Addr→List Q4→Prop:=Paired fun p q=>H p=some (.tup (q4 q))
theorem Tups.len {H:Hp} {ps:List Addr} {qs:List Q4} (h:Tups H ps qs):ps.length=qs.length:=Paired.length h
theorem Tups.nil {H:Hp}:Tups H [] []:=Paired.nil
theorem Tups.same {H H':Hp} {ps:List Addr} {qs:List Q4} (h:Tups H ps qs) (e:Same H H'):Tups H' ps qs:=Paired.mapP h fun _ _ q=>e _ _ q
theorem Tups.keep {H H':Hp} {ps:List Addr} {qs:List Q4} (h:Tups H ps qs) (e:∀ p xs,H p=some (.tup xs)→H' p=some (.tup xs)):Tups H' ps qs:=Paired.mapP h fun _ _ q=>e _ _ q
theorem Tups.snoc {H:Hp} {t:Addr} {q:Q4} (ht:H t=some (.tup (q4 q))):∀ {ps:List Addr} {qs:List Q4},Tups H ps qs→Tups H (ps++[t]) (qs++[q])
  | _,_,Paired.nil=>.cons ht .nil
  | _,_,Paired.cons a b=>.cons a (Tups.snoc ht b)
theorem Tups.get {H:Hp}:∀ {ps:List Addr} {qs:List Q4} {i:Nat} {p:Addr},Tups H ps qs→ps[i]? = some p→∃ q,qs[i]? = some q∧H p=some (.tup (q4 q))
  | _,_,_,_,Paired.nil,e=>by simp at e
  | _,_,0,_,Paired.cons a _,e=>by simp at e; subst e; exact ⟨_,rfl,a⟩
  | _,_,i+1,_,Paired.cons _ b,e=>by
    obtain ⟨q,h1,h2⟩:=Tups.get (i:=i) b (by simpa using e)
    exact ⟨q,by simpa using h1,h2⟩
structure Row (H:Hp) (l:Addr) (ps:List Addr) (qs:List Q4):Prop where
  hl:H l=some (.lst (ps.map V.ref))
  r:Tups H ps qs
theorem Row.same {H H':Hp} {l:Addr} {ps:List Addr} {qs:List Q4} (R:Row H l ps qs) (e:Same H H'):Row H' l ps qs:=⟨e _ _ R.hl,R.r.same e⟩
theorem cutV_ints (ns:List Int) (lo hi:Option Int):∃ ms:List Int,cutV (ns.map V.int) lo hi=ms.map V.int∧ms.length≤ns.length:=by
  refine ⟨(ns.drop (HT.sIx (ns.map V.int).length 0 lo)).take (HT.sIx (ns.map V.int).length (ns.map V.int).length hi-HT.sIx (ns.map V.int).length 0 lo),?_,?_⟩
  · unfold cutV; rw [List.map_take,List.map_drop]
  · rw [List.length_take,List.length_drop]; omega
mutual
theorem eqv_refl:∀ d:PyData,d.canLay0=true→PyData.eqv d d=true
  | .none,_=>rfl
  | .bool b,_=>by simp [PyData.eqv]
  | .int i,_=>by simp [PyData.eqv]
  | .str x,_=>by simp [PyData.eqv]
  | .list xs,h=>by
    have h:PyData.canLayAll0 xs=true:=by simpa only [PyData.canLay0] using h
    simpa only [PyData.eqv] using eqvAll_refl xs h
  | .tuple xs,h=>by
    have h:PyData.canLayAll0 xs=true:=by simpa only [PyData.canLay0] using h
    simpa only [PyData.eqv] using eqvAll_refl xs h
  | .dict _,h=>by simp [PyData.canLay0] at h
theorem eqvAll_refl:∀ ds:List PyData,PyData.canLayAll0 ds=true→PyData.eqvAll ds ds=true
  | [],_=>rfl
  | d :: r,h=>by
    simp only [PyData.canLayAll0,Bool.and_eq_true] at h
    simp only [PyData.eqvAll,Bool.and_eq_true]
    exact ⟨eqv_refl d h.1,eqvAll_refl r h.2⟩
end
theorem canLay_all {α:Type} {f:α→PyData} (h:∀ a,(f a).canLay0=true):∀ l:List α,PyData.canLayAll0 (l.map f)=true
  | []=>rfl
  | a :: r=>by simp only [List.map_cons,PyData.canLayAll0,h a,canLay_all h r,Bool.and_self]
theorem depth_all {α:Type} {f:α→PyData} {n:Nat} (h:∀ a,(f a).depth≤n):∀ l:List α,PyData.depthAll (l.map f)≤n
  | []=>Nat.zero_le _
  | a :: r=>by
    have h1:=h a
    have h2:=depth_all h r
    simp only [List.map_cons,PyData.depthAll]
    omega
theorem shaped_list {α:Type} {f:α→PyData} {n:Nat} (h:∀ a,(f a).canLay0=true) (hd:∀ a,(f a).depth≤n) (hn:n<64) (l:List α):PySem.SeqAt.shaped (.list (l.map f))=true:=by
  unfold PySem.SeqAt.shaped
  rw [Bool.and_eq_true,decide_eq_true_eq]
  refine ⟨by simpa only [PyData.canLay0] using canLay_all h l,?_⟩
  have:=depth_all hd l
  simp only [PyData.depth]
  omega
end L2
namespace L2
open PySem PySem.Spec PyProof.Rows
end L2
namespace L2
open PySem PySem.Spec PyProof.Rows
section
variable {X:Cx}
theorem op_eqDK (K:PySem.W.Frag) (h:X.K=K) (hu:X.A.units+64<cLine):OpR X (compareOp .Eq) (rEqD K):=h ▸ op_eqD hu
theorem op_neDK (K:PySem.W.Frag) (h:X.K=K) (hu:X.A.units+64<cLine):OpR X (compareOp .NotEq) (rNeD K):=h ▸ op_neD hu
end
theorem eq_at {K:PySem.W.Frag} {H:Hp} {x y:V} {d e:PyData} {Q:VK} (hx:Deep K H x d) (hy:Deep K H y e) (sd:PySem.SeqAt.shaped d=true) (se:PySem.SeqAt.shaped e=true) (q:Q (.bl (PyData.eqv d e)) H):rEqD K x y H Q:=⟨d,e,hx,hy,sd,se,q⟩
theorem ne_at {K:PySem.W.Frag} {H:Hp} {x y:V} {d e:PyData} {Q:VK} (hx:Deep K H x d) (hy:Deep K H y e) (sd:PySem.SeqAt.shaped d=true) (se:PySem.SeqAt.shaped e=true) (q:Q (.bl (!PyData.eqv d e)) H):rNeD K x y H Q:=⟨d,e,hx,hy,sd,se,q⟩
theorem ne_same {K:PySem.W.Frag} {H:Hp} {x y:V} {d:PyData} {Q:VK} (hx:Deep K H x d) (hy:Deep K H y d) (sd:PySem.SeqAt.shaped d=true) (q:Q (.bl false) H):rNeD K x y H Q:=by
  refine ne_at hx hy sd sd ?_
  rw [eqv_refl d (PySem.SeqAt.canLay_of_shaped sd)]; exact q
theorem lst_at {K:PySem.W.Frag} {H:Hp} {p:Addr} {ys:List V} {Q:VK} (h:SqL K H p ys) (q:∀ l,H l=none→Q (.ref l) (upd H l (.lst ys))):rLst K [.ref p] H Q:=⟨p,ys,rfl,.inl h,q⟩
theorem len_at {K:PySem.W.Frag} {H:Hp} {p:Addr} {ys:List V} {Q:VK} (h:SqL K H p ys) (q:Q (.int ys.length) H):rLen K [.ref p] H Q:=⟨p,ys,rfl,.inl h,q⟩
theorem slL_at {K:PySem.W.Frag} {H:Hp} {p:Addr} {xs:List V} {lo hi:Option Int} {Q:VK} (h:SqL K H p xs) (q:∀ l,H l=none→Q (.ref l) (upd H l (.lst (cutV xs lo hi)))):rSlL K (.ref p) lo hi H Q:=⟨p,xs,rfl,h,q⟩
theorem Row.copy {H:Hp} {l l':Addr} {ps:List Addr} {qs:List Q4} (R:Row H l ps qs) (h:H l'=none):Row (upd H l' (.lst (ps.map V.ref))) l' ps qs:=⟨upd_same,R.r.same (same_new h)⟩
end L2
namespace L2
open PySem PySem.Spec PyProof.Rows
section
variable {prog:Program} {w:World} {A:Around} {R:Result→Shared→Prop}
end
end L2
namespace L2
open PySem PySem.Spec PyProof.Rows
def XTr (B:Heap) (e:Addr) (h:Heap) (vs:Array Value):Option Value→Prop
  | none=>vs[1]? = some Value.none
  | some f=>∃ T oT ts,vs[1]? = some (.ref T)∧B.get? T=none∧T≠e∧h.get? T=some oT∧oT.data = .fields ts∧ts[3]? = some f
structure XAt (B:Heap) (e:Addr) (cls:Value) (dct:Option Addr) (fl:Option Value) (h:Heap):Prop where
  stay:B.StaysIn h
  new:B.get? e=none
  ex:∃ oe vs,h.get? e=some oe∧oe.cls=cls∧oe.dict=dct∧oe.data = .fields vs∧1<vs.size∧XTr B e h vs fl
section
variable {M:Model} {A:Around} {E:Value→Shared→Prop} {s:Shared} {B:Heap} {env:Env} {outer:List Env} {L e:Addr} {cls:Value} {dct:Option Addr}
end
end L2
namespace L2
open PySem PySem.Spec PyProof.Rows
abbrev bmV:List Value:=[.type "ValueError", .type "Exception", .type "BaseException", .type "object"]
structure XC (K:PySem.W.Frag) (C:Addr):Prop where
  hd:PySem.W.hasDictIn K C=true
  ga:PySem.W.findIn K (.ref C) "__getattribute__" = some (some (.builtin "BaseException.__getattribute__"))
  gn:PySem.W.findIn K (.ref C) "__getattr__" = some none
  sa:PySem.W.findIn K (.ref C) "__setattr__" = some (some (.builtin "object.__setattr__"))
  cl:PySem.W.findIn K (.ref C) "__class__" = some (some (.builtin "object.__class__"))
  kg:PySem.W.specialIn K (.builtin "object.__class__") "__get__" = some (some (.builtin "getset_descriptor.__get__"))
  kt:PySem.W.takesIn K (.builtin "object.__class__")=some true
  be:PySem.W.mroIn K C (.type "BaseException")=some true
  ob:PySem.W.mroIn K C (.type "object")=some true
  ex:∃ nm q N bs bm hdct sn sub ab col dd k0 k1 k2 k3 k5,K.lookup C=some (excClassObj nm q C N bs bm hdct sn sub ab col dd k0 k1 k2 k3 k5 "ValueError.__new__")∧PySem.W.tailIn K bmV bm=true
section
variable {prog:Program} {w:World} {A:Around} {E:Value→Shared→Prop} {s:Shared} {K:PySem.W.Frag} {x C:Addr} {ox:Obj} {od:Option Obj}
end
end L2
namespace L2
open PySem PySem.Spec PyProof.Rows
def XOb (e C:Addr) (dct:Option Addr) (fr:Bool) (h:Heap):Prop:=∃ oe vs,h.get? e=some oe∧oe.cls = .ref C∧oe.dict=dct∧oe.data = .fields vs∧1<vs.size∧(fr=true→vs[1]? = some Value.none)
def excO (e C:Addr) (dct:Option Addr) (fr:Bool):HO:=.ext (XOb e C dct fr)
section
variable {P:Program} {w:World} {H:Hp} {h:Heap}
end
structure Fly (P:Program) (w:World) (B:Heap) (l:List Env) (e C:Addr) (dct:Option Addr) (H:Hp) (h:Heap):Prop where
  at_:∃ fl,(fl=none∨fl=some Value.none)∧XAt B e (.ref C) dct fl h
  ff:h.FunFrames B l
  hok:HOk P w H h
  he:H e=some (excO e C dct false)
  cov:∀ a o,H a=some o→a≠e→∃ ob,B.get? a=some ob
def CXX (P:Program) (w:World):CXT:=fun outer H s E e s'=>∃ B ea C dct H',e = .ref ea∧s'.os=s.os∧AllBare s'.gens∧Fly P w B outer ea C dct H' s'.heap∧Un (frs outer) [] H H' s.heap s'.heap ∧
  (∀ b o,s.heap.get? b=some o→H b=none→b ∉ frs outer→B.get? b=some o)∧E (.ref ea) dct H'
section
variable {X:Cx} {pins:List (Addr×Obj)} {σ:St} {H H':Hp} {s:Shared} {h':Heap}
end
end L2
namespace L2
open PySem PySem.Spec PyProof.Rows
abbrev XH:=Value→Option Addr→St→Hp→Prop
def PassesX (CX:CXT) (X:Cx) (Ek:XH):Prop:=∀ (pins:List (Addr×Obj)) (σ:St) (H:Hp) (s:Shared) (e:Value) (s':Shared),Inv X pins σ H s→CX X.stack H s (fun v d H'=>Ek v d σ H') e s'→X.xe e s'
abbrev EX0:XH:=fun _ _ _ _=>False
theorem passN {P:Program} {w:World} {X:Cx}:PassesX (CXX P w) X EX0:=fun _ _ _ _ _ _ _ ⟨_,_,_,_,_,_,_,_,_,_,_,h⟩=>h.elim
section
variable {X:Cx} {pins:List (Addr×Obj)} {σ:St} {H H':Hp} {s s':Shared} {B h':Heap} {e C:Addr} {dct:Option Addr} {fl:Option Value}
end
section
variable {P:Program} {w:World} {K:PySem.W.Frag} {mg:Str→Option Value} {base:Heap} {N:List Str} {qual:Str} {sc:Scope} {f:Addr} {cd:Value} {A:Around} {outer:List Env} {s₀:Shared} {H₀:Hp} {E:XK}
end
section
variable {P:Program} {w:World} {X:Cx} {pins pins':List (Addr×Obj)} {Hk:XH} {σ:St} {H:Hp} {s:Shared}
end
section
variable {X:Cx} {pins:List (Addr×Obj)} {σ:St} {H:Hp} {s:Shared} {e:Addr}
end
def tCallX (sp:Sp) (Ek:XH) (t:TA):TE:=fun σ H Q=>t σ H fun vs H1=>sp vs H1 Q (fun v d H'=>Ek v d σ H')
section
variable {X:Cx} {CX:CXT} {k:Nat} {x:Str} {ps:List Str} {sp:Sp} {Ek:XH} {p pos:Pos} {e:Expr} {es:List Expr} {t:TA}
theorem pe_callX (D:Def X.prog X.w X.K X.mg X.base CX k x ps sp) (hr:Room k X.A) (hg:Gl X x) (hx:PassesX CX X Ek) (ha:PA X (e :: es) t)
    (hdb:(x == ("__debug__" : Str))=false:=by decide) (he:starEach (e :: es) X.env=(false,eval e X.env) :: starEach es X.env:=by rfl) (hpl:(backTo pos (starEach es X.env)).any (·.1)=false:=by rfl) :
    PE X (.Call (.Name x p) (e :: es) [] pos) (tCallX sp Ek t):=by
  obtain ⟨f,fd,F,hb,hk,hm⟩:=D.ex
  intro pins s σ H Q I h
  refine wpAny_Call_Name_kw (ld_glob I hg hm ?_ hdb)
  refine PySem.W.callWith_K (h₀:=X.base) I.ok.mod.kin hk (thn (ha pos pins s σ H _ I h) fun us s1 ⟨vs,H1,I1,r,q⟩=>⟨I1.kIn,?_⟩) he hpl
  have hl:(us++[]).length=ps.length:=by rw [List.append_nil,← r.length]; exact F.len _ _ _ _ q
  have hbb:=hb s1 us I1.kIn hl
  rw [List.append_nil] at hbb
  refine wpAny_call (codeAny_mono (F.run X.A X.stack s1 H1 ⟨us,[]⟩ us vs Q _ hr I1.env0 hbb r q) fun r s' hq=>?_)
  cases r with
  | error e=>exact hx pins σ H1 s1 e s' I1 hq
  | ok fl =>
    cases fl with
    | ret u=>exact I1.after hq
    | next=>exact False.elim hq
    | brk=>exact False.elim hq
    | cont=>exact False.elim hq
end
theorem Src.okN {P:Program} {w:World} {K:PySem.W.Frag} {mg:Str→Option Value} {base:Heap} {CX:CXT} {x:Str} {st:Stmt} {N ps:List Str} {k:Nat} {sp:Sp} (F:Src K mg x st ps) (S:FnScope N ps (defScope st)) (len:∀ vs H Q E,sp vs H Q E→vs.length=ps.length)
    (hbody:∀ (f:Addr) (cdv:Value) (A:Around) (outer:List Env) (s:Shared) (H:Hp) (vs:List V) (Q:VK) (E:XK),Room k (A.deeper (envOfC x (defScope st) s.heap.objs.size f cdv))→sp vs H Q E →
      ∃ t,PSs (cxOf CX P w K mg base N x (defScope st) f cdv A outer s H E).nox (defBody st) t∧t { nx:=fun _ H'=>Q .non H',rt:=Q } (start N vs) H):Def P w K mg base CX (k+1) x ps sp:=by
  obtain ⟨f,fd,F,b,m⟩:=F.ex
  obtain ⟨oc,od,kV,doc,pm,an,cdv,ct,osl,rfl,lk,hcd⟩:=F.ex
  exact ⟨f,_,fn_of lk hcd S len fun A outer s H vs Q E hr hsp=>by
    obtain ⟨t,h,q⟩:=hbody f cdv A outer s H vs Q E hr hsp
    exact ⟨t,h.nox,q⟩,b,F.kp,m⟩
def tXmk (C:Addr) (t:TA):TE:=fun σ H Q=>t σ H fun vs H1=>vs.length≤1000∧∀ e,H1 e=none→Q (.ref e) (upd H1 e (excO e C none true))
def tRaise (K:PySem.W.Frag) (Ek:XH) (te:TE):TS:=fun _ σ H=>te σ H fun v H1=>∃ e C dct,v = .ref e∧H1 e=some (excO e C dct true)∧XC K C∧Ek (.ref e) dct σ (upd H1 e (excO e C dct false))
section
variable {X:Cx} {C:Addr} {x:Str} {p pos:Pos} {e:Expr} {es:List Expr} {t:TA}
end
section
variable {prog:Program} {w:World} {A:Around} {E:Value→Shared→Prop} {s:Shared} {K:PySem.W.Frag} {e C C':Addr}
end
def hkOf (K:PySem.W.Frag) (C':Addr) (th:Addr→TS) (D:Ends):XH:=fun v d σ H=>∃ e C,v = .ref e∧H e=some (excO e C d false)∧PySem.W.subIn K (.ref C) (.ref C')=some true∧th e D σ H
def tTry (K:PySem.W.Frag) (C':Addr) (tb:XH→TS) (th:TS):TS:=fun D σ H=>tb (hkOf K C' (fun _=>th) D) D σ H
def tTryAs (K:PySem.W.Frag) (C':Addr) (i:Nat) (tb:XH→TS) (th:TS):TS:=fun D σ H =>
  tb (hkOf K C' (fun e D σ H=>th { nx:=fun σ H=>D.nx (σ.set i none) H,rt:=D.rt,bk:=fun σ H=>D.bk (σ.set i none) H,ct:=fun σ H=>D.ct (σ.set i none) H } (σ.set i (some (.ref e))) H) D) D σ H
section
variable {P:Program} {w:World} {X:Cx} {C':Addr} {x:Str} {np hpos pos:Pos} {body suite:List Stmt} {b0:Stmt} {tb:XH→TS} {th:TS}
end
end L2
namespace L2
open PySem PySem.Spec PyProof.Rows
section
variable {X:Cx}
end
end L2
namespace L2
open PySem PySem.Spec PyProof.Rows
section
variable {K:PySem.W.Frag} {C C':Addr}
end
end L2
namespace L2
open PySem PySem.Spec PyProof.Rows
end L2
namespace L2
open PySem PySem.Spec PyProof.Rows
abbrev TupsF {α:Type} (enc:α→List V) (H:Hp):List Addr→List α→Prop:=Paired fun p q=>H p=some (.tup (enc q))
section
variable {α:Type} {enc:α→List V} {H H':Hp} {ps:List Addr} {qs:List α}
theorem tupsF_len (h:TupsF enc H ps qs):ps.length=qs.length:=Paired.length h
theorem tupsF_same (h:TupsF enc H ps qs) (e:Same H H'):TupsF enc H' ps qs:=Paired.mapP h fun _ _ q=>e _ _ q
theorem tupsF_keep (h:TupsF enc H ps qs) (e:∀ p xs,H p=some (.tup xs)→H' p=some (.tup xs)):TupsF enc H' ps qs:=Paired.mapP h fun _ _ q=>e _ _ q
theorem tupsF_snoc {t:Addr} {q:α} (ht:H t=some (.tup (enc q))):∀ {ps:List Addr} {qs:List α},TupsF enc H ps qs→TupsF enc H (ps++[t]) (qs++[q])
  | _,_,Paired.nil=>.cons ht .nil
  | _,_,Paired.cons a b=>.cons a (tupsF_snoc ht b)
theorem tupsF_get:∀ {ps:List Addr} {qs:List α} {i:Nat} {p:Addr},TupsF enc H ps qs→ps[i]? = some p→∃ q,qs[i]? = some q∧H p=some (.tup (enc q))
  | _,_,_,_,Paired.nil,e=>by simp at e
  | _,_,0,_,Paired.cons a _,e=>by simp at e; subst e; exact ⟨_,rfl,a⟩
  | _,_,i+1,_,Paired.cons _ b,e=>by
    obtain ⟨q,h1,h2⟩:=tupsF_get (i:=i) b (by simpa using e)
    exact ⟨q,by simpa using h1,h2⟩
structure Lst (enc:α→List V) (H:Hp) (l:Addr) (ps:List Addr) (qs:List α):Prop where
  hl:H l=some (.lst (ps.map V.ref))
  r:TupsF enc H ps qs
theorem Lst.same {l:Addr} (R:Lst enc H l ps qs) (e:Same H H'):Lst enc H' l ps qs:=⟨e _ _ R.hl,tupsF_same R.r e⟩
end
abbrev F2:=Int×Int
def f2 (q:F2):List V:=[.int q.1,.int q.2]
end L2
namespace Sw
open L2
def nrm (q:F2):F2:=(rN q.1 q.2,rD q.1 q.2)
theorem nrm_fr {q:F2} (h:q.2≠0):Fr (nrm q).1 (nrm q).2:=rat_fr h
theorem nrm_cross {q:F2} (h:q.2≠0):(nrm q).1*q.2=(nrm q).2*q.1:=rat_cross h
end Sw
namespace L2
open PySem PySem.Spec PyProof.Rows
theorem app_at {H:Hp} {l:Addr} {xs:List V} {y:V} {Q:VK} (h:H l=some (.lst xs)) (hz:xs.length<1000) (q:Q .non (upd H l (.lst (xs++[y])))):rAppend (.ref l) [y] H Q:=⟨l,xs,y,rfl,rfl,h,line_lt hz,q⟩
theorem tyL_at {K:PySem.W.Frag} {H:Hp} {l:Addr} {xs:List V} (h:H l=some (.lst xs)):tyV K "list" (.ref l) H:=.inl ⟨rfl,_,.of h⟩
end L2
namespace L2
open PySem PySem.Spec PyProof.Rows
def tCallN (sp:Sp) (t:TA):TE:=fun σ H Q=>t σ H fun vs H1=>sp vs H1 Q E0
section
variable {P:Program} {w:World} {X:Cx} {k:Nat} {x:Str} {ps:List Str} {sp:Sp} {p pos:Pos} {e:Expr} {es:List Expr} {t:TA}
end
end L2
namespace L2
open PySem PySem.Spec PyProof.Rows
end L2
namespace L2
open PySem PySem.Spec PyProof.Rows
end L2
namespace L2
open PySem PySem.Spec PyProof.Rows
section
variable {X:Cx} {o value:Expr} {f:Str} {pos pos':Pos} {ta tv:TE}
end
def tXmk1 (C:Addr) (sp:Sp) (t:TA):TE:=fun σ H Q=>t σ H fun vs H1=>vs.length≤1000∧∀ e,H1 e=none→sp (.ref e :: vs) (upd H1 e (excO e C none true)) (fun v H2=>v = .non∧Q (.ref e) H2) E0
end L2
namespace L2
open PySem PySem.Spec PyProof.Rows
end L2
namespace L2
open PySem PySem.Spec PyProof.Rows
section
variable {X:Cx}
end
end L2
namespace Sw
open L2
def Fine (i:Nat) (b:Int) (q:Q4):Prop:=i<60∧0≤q.1∧q.1≤1000000000000∧0≤q.2.1∧q.2.1≤11∧1≤q.2.2.1∧q.2.2.1≤1000000∧1≤q.2.2.2∧q.2.2.2≤1000000∧b≤q.1
instance (i:Nat) (b:Int) (q:Q4):Decidable (Fine i b q):=by unfold Fine; infer_instance
end Sw
namespace L2
open PySem PySem.Spec PyProof.Rows
def BindsV (K:PySem.W.Frag) (fd:FuncData) (ps:List Str) (dvs:List V):Prop:=∃ ds,Vals dvs ds∧Binds K fd ps ds
theorem BindsV.nil {K:PySem.W.Frag} {fd:FuncData} {ps:List Str} (h:Binds K fd ps []):BindsV K fd ps []:=⟨[],.nil,h⟩
structure FunE (K:PySem.W.Frag) (x qual:Str) (st:Stmt) (f:Addr) (fd:FuncData):Prop where
  ex:∃ (oc:Value) (od:Option Addr) (dV kV doc pm:Value) (an:Option Addr) (cdv ct:Value) (osl:Array (Option Value)),
    fd=PySem.W.fnOf x qual (defArgs st) (defBody st) (defScope st) dV kV doc pm an cdv ct∧K.lookup f=some ⟨oc,od,.func fd,osl⟩∧PySem.W.codeIn K cdv qual=true
theorem funE_mk {K:PySem.W.Frag} {x qual:Str} {st:Stmt} {f:Addr} {oc:Value} {od an:Option Addr} {osl:Array (Option Value)} {dV kV doc pm cdv ct:Value} (l:K.lookup f=some ⟨oc,od,.func (PySem.W.fnOf x qual (defArgs st) (defBody st) (defScope st) dV kV doc pm an cdv ct),osl⟩)
    (c:PySem.W.codeIn K cdv qual=true):FunE K x qual st f (PySem.W.fnOf x qual (defArgs st) (defBody st) (defScope st) dV kV doc pm an cdv ct):=⟨⟨oc,od,dV,kV,doc,pm,an,cdv,ct,osl,rfl,l,c⟩⟩
structure MethD (P:Program) (w:World) (K:PySem.W.Frag) (mg:Str→Option Value) (base:Heap) (CX:CXT) (k:Nat) (C:Addr) (m:Str) (ps:List Str) (dss:List (List V)) (sp:Sp):Prop where
  ex:∃ (f:Addr) (fd:FuncData),FnOk P w K mg base CX k f fd ps sp∧Meth K C m f∧∀ dvs∈dss,BindsV K fd ps dvs
structure MkD (P:Program) (w:World) (K:PySem.W.Frag) (mg:Str→Option Value) (base:Heap) (CX:CXT) (k:Nat) (C:Addr) (ps:List Str) (dss:List (List V)) (sp:Sp):Prop where
  ex:∃ (f:Addr) (fd:FuncData),FnOk P w K mg base CX k f fd ps sp∧Mk K C f∧∀ dvs∈dss,BindsV K fd ps dvs
structure SrcM (K:PySem.W.Frag) (C:Addr) (m qual:Str) (st:Stmt) (ps:List Str) (dss:List (List V)):Prop where
  ex:∃ (f:Addr) (fd:FuncData),FunE K m qual st f fd∧Meth K C m f∧∀ dvs∈dss,BindsV K fd ps dvs
structure SrcK (K:PySem.W.Frag) (C:Addr) (qual:Str) (st:Stmt) (ps:List Str) (dss:List (List V)):Prop where
  ex:∃ (f:Addr) (fd:FuncData),FunE K "__init__" qual st f fd∧Mk K C f∧∀ dvs∈dss,BindsV K fd ps dvs
section
variable {P:Program} {w:World} {K:PySem.W.Frag} {mg:Str→Option Value} {base:Heap} {CX:CXT} {C:Addr} {m qual:Str} {st:Stmt} {N ps:List Str} {dss:List (List V)} {k:Nat} {sp:Sp}
theorem SrcM.okN (F:SrcM K C m qual st ps dss) (S:FnScope N ps (defScope st)) (len:∀ vs H Q E,sp vs H Q E→vs.length=ps.length)
    (hbody:∀ (f:Addr) (cdv:Value) (A:Around) (outer:List Env) (s:Shared) (H:Hp) (vs:List V) (Q:VK) (E:XK),Room k (A.deeper (envOfC qual (defScope st) s.heap.objs.size f cdv))→sp vs H Q E →
      ∃ t,PSs (cxOf CX P w K mg base N qual (defScope st) f cdv A outer s H E).nox (defBody st) t∧t { nx:=fun _ H'=>Q .non H',rt:=Q } (start N vs) H):MethD P w K mg base CX (k+1) C m ps dss sp:=by
  obtain ⟨f,fd,F,me,b⟩:=F.ex
  obtain ⟨oc,od,dV,kV,doc,pm,an,cdv,ct,osl,rfl,lk,hcd⟩:=F.ex
  exact ⟨f,_,fn_of lk hcd S len fun A outer s H vs Q E hr hsp=>by
    obtain ⟨t,h,q⟩:=hbody f cdv A outer s H vs Q E hr hsp
    exact ⟨t,h.nox,q⟩,me,b⟩
theorem SrcK.okN (F:SrcK K C qual st ps dss) (S:FnScope N ps (defScope st)) (len:∀ vs H Q E,sp vs H Q E→vs.length=ps.length)
    (hbody:∀ (f:Addr) (cdv:Value) (A:Around) (outer:List Env) (s:Shared) (H:Hp) (vs:List V) (Q:VK) (E:XK),Room k (A.deeper (envOfC qual (defScope st) s.heap.objs.size f cdv))→sp vs H Q E →
      ∃ t,PSs (cxOf CX P w K mg base N qual (defScope st) f cdv A outer s H E).nox (defBody st) t∧t { nx:=fun _ H'=>Q .non H',rt:=Q } (start N vs) H):MkD P w K mg base CX (k+1) C ps dss sp:=by
  obtain ⟨f,fd,F,me,b⟩:=F.ex
  obtain ⟨oc,od,dV,kV,doc,pm,an,cdv,ct,osl,rfl,lk,hcd⟩:=F.ex
  exact ⟨f,_,fn_of lk hcd S len fun A outer s H vs Q E hr hsp=>by
    obtain ⟨t,h,q⟩:=hbody f cdv A outer s H vs Q E hr hsp
    exact ⟨t,h.nox,q⟩,me,b⟩
end
def tMethX (C:Addr) (m:Str) (sp:Sp) (dvs:List V) (Ek:XH) (ta:TE) (t:TA):TE:=fun σ H Q=>ta σ H fun x H1=>∃ a dx fs,x = .ref a∧H1 a=some (.ins C dx fs)∧fs.lookup m=none ∧
  t σ H1 fun vs H2=>sp (x :: (vs++dvs)) H2 Q (fun v d H'=>Ek v d σ H')
def tMakeX (C:Addr) (sp:Sp) (dvs:List V) (Ek:XH) (t:TA):TE:=fun σ H Q=>t σ H fun vs H1=>∀ x dx,H1 x=none→H1 dx=none→dx≠x →
  sp (.ref x :: (vs++dvs)) (upd (upd H1 dx (.own x)) x (.ins C dx [])) (fun v H2=>v = .non∧Q (.ref x) H2) (fun v d H'=>Ek v d σ H')
section
variable {X:Cx} {CX:CXT} {k:Nat} {f C:Addr} {fd:FuncData} {ps:List Str} {sp:Sp} {dvs:List V} {dss:List (List V)} {Ek:XH} {x m:Str} {p pos apos:Pos} {e o:Expr} {es:List Expr} {ta:TE} {t:TA}
theorem run_fnX {pins:List (Addr×Obj)} {σ:St} {H:Hp} {s:Shared} {Q:VK} {us:List Value} {vs:List V} (F:FnOk X.prog X.w X.K X.mg X.base CX k f fd ps sp) (hr:Room k X.A) (hb:BindsV X.K fd ps dvs) (hx:PassesX CX X Ek)
    (I:Inv X pins σ H s) (r:Vals vs us) (h:sp (vs++dvs) H Q (fun v d H'=>Ek v d σ H')):wpAny (model X.prog X.w) X.A (call (.ref f) us) (EP X pins σ Q) X.xe s:=by
  obtain ⟨ds,hd,hb⟩:=hb
  have r2:Vals (vs++dvs) (us++ds):=r.append hd
  have hl:(us++ds).length=ps.length:=by rw [← r2.length]; exact F.len _ _ _ _ h
  refine wpAny_call (codeAny_mono (F.run X.A X.stack s H ⟨us,[]⟩ (us++ds) (vs++dvs) Q _ hr I.env0 (hb s us I.kIn hl) r2 h) fun r s' hq=>?_)
  cases r with
  | error e=>exact hx pins σ H s e s' I hq
  | ok fl =>
    cases fl with
    | ret u=>exact I.after hq
    | next=>exact False.elim hq
    | brk=>exact False.elim hq
    | cont=>exact False.elim hq
theorem pe_methX {pl:Sem Bool} (D:MethD X.prog X.w X.K X.mg X.base CX k C m ps dss sp) (hin:dvs∈dss) (c:Cls X.K C) (hr:Room k X.A) (hx:PassesX CX X Ek) (he:PE X o ta) (ha:PA X (e :: es) t)
    (hst:starEach (e :: es) X.env=(false,eval e X.env) :: starEach es X.env:=by rfl) (hpl:(backTo pos (starEach es X.env)).any (·.1)=false:=by rfl)
    (ht:eval (.Call (.Attribute o m apos) (e :: es) [] pos) X.env=(do
      let ov ← eval o X.env
      standAt apos.atName
      let (f,first) ← holding [ov] (getMethod ov m pl)
      callWith pos f first (backTo pos (starEach (e :: es) X.env)) (backToKw pos (keywordEach [] X.env))):=by rfl) :
    PE X (.Call (.Attribute o m apos) (e :: es) [] pos) (tMethX C m sp dvs Ek ta t):=by
  obtain ⟨f,fd,F,hm,hb⟩:=D.ex
  intro pins s σ H Q I h
  refine PySem.W.methodCall_KW (pl:=pl) (thn (he pins s σ H _ I h) fun u s1 ⟨x,H1,I1,rx,a,dx,fs,ex,ea,l,q⟩=>?_) ht
  subst ex
  obtain rfl:u=Value.ref a:=rx
  refine getmeth_ok I1 ea c hm l ?_
  refine PySem.W.callWith_K (first:=[.ref a]) (h₀:=X.base) I.ok.mod.kin hm.kp (thn (ha pos pins s1 σ H1 _ I1 q) fun us s2 ⟨vs,H2,I2,r,q2⟩=>⟨I2.kIn,?_⟩) hst hpl
  exact run_fnX (us:=.ref a :: us) (vs:=.ref a :: vs) F hr (hb _ hin) hx I2 (.cons rfl r) q2
theorem run_makeX {pins:List (Addr×Obj)} {σ:St} {H:Hp} {s:Shared} {Q:VK} {us:List Value} {vs:List V} (M:Mk X.K C f) (F:FnOk X.prog X.w X.K X.mg X.base CX k f fd ps sp) (hr:Room (k+1) X.A) (hb:BindsV X.K fd ps dvs)
    (hx:PassesX CX X Ek) (I:Inv X pins σ H s) (r:Vals vs us)
    (h:∀ x dx,H x=none→H dx=none→dx≠x→sp (.ref x :: (vs++dvs)) (upd (upd H dx (.own x)) x (.ins C dx [])) (fun v H2=>v = .non∧Q (.ref x) H2) (fun v d H'=>Ek v d σ H')) :
    wpAny (model X.prog X.w) X.A (call (.ref C) us) (EP X pins σ Q) X.xe s:=by
  obtain ⟨ds,hd,hb⟩:=hb
  have hq:=h (s.heap.objs.size+1) s.heap.objs.size (I.hok.fresh (Nat.le_succ _)) (I.hok.fresh (Nat.le_refl _)) (Nat.ne_of_lt (Nat.lt_succ_self _))
  have I2:=Inv.made (C:=C) I
  have r2:Vals (V.ref (s.heap.objs.size+1) :: (vs++dvs)) (Value.ref (s.heap.objs.size+1) :: (us++ds)):=.cons rfl (r.append hd)
  have hl:(Value.ref (s.heap.objs.size+1) :: us++ds).length=ps.length:=by
    have e:=r2.length
    rw [F.len _ _ _ _ hq] at e
    exact e.symm
  refine wpAny_call (make_map (f:=f) I.kIn M.makes M.init (beq_iff_eq.mp M.fn) (codeAny_mono (F.run _ X.stack _ _ ⟨Value.ref (s.heap.objs.size+1) :: us,[]⟩ (Value.ref (s.heap.objs.size+1) :: (us++ds)) _ _ _ (hr.make C us [])
    (I2.env0.make C us []) (hb _ (Value.ref (s.heap.objs.size+1) :: us) I2.kIn hl) r2 hq) fun r s' hq'=>?_))
  cases r with
  | error e=>exact hx pins σ _ _ e s' I2 hq'
  | ok fl =>
    cases fl with
    | ret u =>
      obtain ⟨v,H',I3,rv,ev,q3⟩:=I2.after hq'
      subst ev
      exact ⟨rv,⟨V.ref (s.heap.objs.size+1),H',I3,rfl,q3⟩⟩
    | next=>exact False.elim hq'
    | brk=>exact False.elim hq'
    | cont=>exact False.elim hq'
theorem pe_makeX0 (D:MkD X.prog X.w X.K X.mg X.base CX k C ps dss sp) (hin:dvs∈dss) (hr:Room (k+1) X.A) (hx:PassesX CX X Ek) (hg:Gl X x) (hm:X.mg x=some (.ref C))
    (hdb:(x == ("__debug__" : Str))=false:=by decide):PE X (.Call (.Name x p) [] [] pos) (tMakeX C sp dvs Ek tNil):=by
  obtain ⟨f,fd,F,M,hb⟩:=D.ex
  intro pins s σ H Q I h
  refine wpAny_Call_Name_kw (ld_glob I hg hm ?_ hdb)
  exact PySem.W.callWith_K0 I.kIn M.kp (run_makeX (us:=[]) M F hr (hb _ hin) hx I .nil h)
end
section
variable {X:Cx}
end
end L2
namespace L2
open PySem PySem.Spec PyProof.Rows
def Itrs (lo c:Int) (n:Nat):It:=⟨fun i _=>i<n,fun i H x H'=>H'=H∧x = .int (lo+i*c),fun i _=>n≤i⟩
structure RngOk (i j c:Int) (n:Nat):Prop where
  nz:c≠0
  np:Builtin.divisionGoesByPylong (j-i) c=false
  sm:Builtin.Range.small i j c=true
  eq:(n:Int)=Builtin.Range.rangeSize i j c
def iRng3 (ta:TA):TI:=fun σ H R=>ta σ H fun vs H1=>∃ i j c n,vs = [.int i,.int j,.int c]∧RngOk i j c n∧R (Itrs i c n) H1
section
variable {X:Cx} {tg:Expr}
end
theorem for_step {wi:TI} {g:TG} {tb:TS} {D:Ends} {σ:St} {H:Hp} (h:∀ Z:It→Hp→Prop,(∀ J H1,(∃ W:Nat→Nat→St→Hp→Prop,(∃ m,W 0 m σ H1)∧∀ i m σ H,W i m σ H →
  (J.stop i H∧D.nx σ H)∨(J.go i H∧∃ N:St→Hp→Prop,(∀ σ' H',N σ' H'→∃ m',m' < m∧W (i+1) m' σ' H')∧∀ x H',J.yld i H x H'→g x σ H' fun σ2 H2=>tb { D with nx:=N,ct:=N,bk:=D.nx } σ2 H2))→Z J H1)→wi σ H Z):tFor wi g tb D σ H:=h _ fun _ _ x=>x
section
variable {X:Cx}
end
end L2
namespace Sw
theorem q_cast_ne {d:Int} (h:d≠0):(d:Rat)≠0:=by
  intro z
  exact h (Rat.intCast_inj.mp (by rw [z]; rfl))
theorem q_cast_pos {d:Int} (h:0<d):(0:Rat)<(d:Rat):=by
  have:((0:Int):Rat)<(d:Rat):=Rat.intCast_lt_intCast.mpr h
  exact this
theorem q_self (q:Rat):(q.num:Rat) / ((q.den:Int):Rat)=q:=by
  rw [← Rat.divInt_eq_div]; exact Rat.num_divInt_den q
theorem q_den_pos (q:Rat):0<(q.den:Int):=by
  have:=q.den_nz
  omega
theorem q_den_ne (q:Rat):(q.den:Int)≠0:=by
  have:=q.den_nz
  omega
theorem q_num (q:Rat):(q.num:Rat)=q*((q.den:Int):Rat):=by
  have h:=q_self q
  have d:=q_cast_ne (q_den_ne q)
  grind
theorem q_low (q:Rat):dv q.num q.den = 1:=by
  unfold dv
  have:=q.reduced
  unfold Nat.Coprime at this
  show ((Nat.gcd q.num.natAbs (q.den:Int).natAbs:Nat):Int) = 1
  rw [Int.natAbs_natCast,this]
  rfl
theorem q_fr (q:Rat):Fr q.num q.den:=⟨q_den_pos q,q_low q⟩
theorem fr_q {n d:Int} (f:Fr n d):((n:Rat) / (d:Rat)).num=n∧((((n:Rat) / (d:Rat)).den:Nat):Int)=d:=by
  have hd:d≠0:=by have:=f.pos; omega
  refine Fr.uniq (q_fr _) f ?_
  have h:=q_num ((n:Rat) / (d:Rat))
  generalize hq:(n:Rat) / (d:Rat)=q at h ⊢
  have e:(n:Rat)=q*d:=by have:=q_cast_ne hd; grind
  have:((q.num*d:Int):Rat)=((n*(q.den:Int):Int):Rat):=by
    rw [Rat.intCast_mul,Rat.intCast_mul]
    grind
  exact Rat.intCast_inj.mp this
theorem q_eq {q:Rat} {n d:Int} (hd:d≠0) (h:q.num*d=(q.den:Int)*n):q=(n:Rat) / (d:Rat):=by
  have e:((q.num*d:Int):Rat)=(((q.den:Int)*n:Int):Rat):=by rw [h]
  rw [Rat.intCast_mul,Rat.intCast_mul,q_num] at e
  have h1:=q_cast_ne hd
  have h2:=q_cast_ne (q_den_ne q)
  grind
theorem q_cross {q:Rat} {n d:Int} (hd:d≠0) (h:q=(n:Rat) / (d:Rat)):q.num*d=(q.den:Int)*n:=by
  have h1:=q_cast_ne hd
  have:((q.num*d:Int):Rat)=(((q.den:Int)*n:Int):Rat):=by
    rw [Rat.intCast_mul,Rat.intCast_mul,q_num]
    grind
  exact Rat.intCast_inj.mp this
theorem q_lt {a b:Rat}:a.num*(b.den:Int)<b.num*(a.den:Int)↔a<b:=(Rat.lt_iff a b).symm
structure SzQ (z:Nat) (q:Rat):Prop where
  n:Sz z q.num
  d:Sz z (q.den:Int)
theorem SzQ.mono {m n:Nat} {q:Rat} (h:SzQ m q) (k:m≤n):SzQ n q:=⟨h.n.mono k,h.d.mono k⟩
theorem cop_dvd' {n d x:Int} (h:dv n d = 1) (q:n ∣ d*x):n ∣ x:=cop_dvd (by rw [dv_comm]; exact h) q
theorem SzQ.of {z:Nat} {q:Rat} {n d:Int} (hd:d≠0) (h:q=(n:Rat) / (d:Rat)) (s1:Sz z n) (s2:Sz z d):SzQ z q:=by
  have c:=q_cross hd h
  refine ⟨?_,?_⟩
  · by_cases hn:n = 0
    · subst hn
      rw [Int.mul_zero] at c
      have:q.num = 0:=by
        rcases Int.mul_eq_zero.mp c with z | z
        · exact z
        · exact absurd z hd
      rw [this]; exact Sz.zero z
    · exact s1.dvd (cop_dvd' (q_low q) ⟨d,c.symm⟩) hn
  · exact s2.dvd (cop_dvd (q_low q) ⟨n,c⟩) hd
theorem SzQ.int {z:Nat} {n:Int} (h:Sz (z+1) n):SzQ (z+1) (n:Rat):=⟨by rw [Rat.num_intCast]; exact h,by rw [Rat.den_intCast]; exact Sz.one z⟩
theorem add_q (a b:Rat):((a.num*(b.den:Int)+b.num*(a.den:Int):Int):Rat) / (((a.den:Int)*(b.den:Int):Int):Rat)=a+b:=by
  rw [Rat.intCast_add,Rat.intCast_mul,Rat.intCast_mul,Rat.intCast_mul,q_num a,q_num b]
  have h1:=q_cast_ne (q_den_ne a)
  have h2:=q_cast_ne (q_den_ne b)
  grind
theorem sub_q (a b:Rat):((a.num*(b.den:Int)-b.num*(a.den:Int):Int):Rat) / (((a.den:Int)*(b.den:Int):Int):Rat)=a-b:=by
  rw [Rat.intCast_sub,Rat.intCast_mul,Rat.intCast_mul,Rat.intCast_mul,q_num a,q_num b]
  have h1:=q_cast_ne (q_den_ne a)
  have h2:=q_cast_ne (q_den_ne b)
  grind
theorem mul_q (a b:Rat):((a.num*b.num:Int):Rat) / (((a.den:Int)*(b.den:Int):Int):Rat)=a*b:=by
  rw [Rat.intCast_mul,Rat.intCast_mul,q_num a,q_num b]
  have h1:=q_cast_ne (q_den_ne a)
  have h2:=q_cast_ne (q_den_ne b)
  grind
theorem div_q (a b:Rat) (hb:b.num≠0):((a.num*(b.den:Int):Int):Rat) / (((a.den:Int)*b.num:Int):Rat)=a / b:=by
  rw [Rat.intCast_mul,Rat.intCast_mul,q_num a,q_num b]
  have h1:=q_cast_ne (q_den_ne a)
  have h2:=q_cast_ne (q_den_ne b)
  have h3:=q_cast_ne hb
  rw [q_num b] at h3
  grind
theorem SzQ.sub {m n:Nat} {a b:Rat} (h:SzQ m a) (k:SzQ n b):SzQ (m+n+1) (a-b):=by
  refine .of (Int.mul_ne_zero (q_den_ne a) (q_den_ne b)) (sub_q a b).symm ?_ ((h.d.mul k.d).mono (by omega))
  exact (h.n.mul k.d).sub ((k.n.mul h.d).mono (by omega))
theorem SzQ.mul {m n:Nat} {a b:Rat} (h:SzQ m a) (k:SzQ n b):SzQ (m+n) (a*b) :=
  .of (Int.mul_ne_zero (q_den_ne a) (q_den_ne b)) (mul_q a b).symm (h.n.mul k.n) (h.d.mul k.d)
theorem SzQ.div {m n:Nat} {a b:Rat} (hb:b.num≠0) (h:SzQ m a) (k:SzQ n b):SzQ (m+n) (a / b) :=
  .of (Int.mul_ne_zero (q_den_ne a) hb) (div_q a b hb).symm (h.n.mul k.d) (h.d.mul k.n)
theorem q_num_ne {q:Rat} (h:q≠0):q.num≠0:=by
  intro z
  have:=q_num q
  rw [z] at this
  have d:=q_cast_ne (q_den_ne q)
  apply h
  have:(0:Rat)=q*((q.den:Int):Rat):=this
  grind
end Sw
namespace L2
def fq (q:Rat):List V:=[.int q.num,.int (q.den:Int)]
theorem fq_nrm {t b:Int} (hb:b≠0):f2 (Sw.nrm (t,b))=fq ((t:Rat) / (b:Rat)):=by
  have f:=Sw.nrm_fr (q:=(t,b)) hb
  have c:=Sw.nrm_cross (q:=(t,b)) hb
  have e:((Sw.nrm (t,b)).1:Rat) / ((Sw.nrm (t,b)).2:Rat)=(t:Rat) / (b:Rat):=by
    have h1:=Sw.q_cast_ne hb
    have h2:(((Sw.nrm (t,b)).2:Int):Rat)≠0:=Sw.q_cast_ne (by have:=f.pos; omega)
    have c':(((Sw.nrm (t,b)).1*b:Int):Rat)=(((Sw.nrm (t,b)).2*t:Int):Rat):=by rw [c]
    rw [Rat.intCast_mul,Rat.intCast_mul] at c'
    grind
  have g:=Sw.fr_q f
  rw [e] at g
  unfold f2 fq
  rw [g.1,g.2]
theorem fq_int (n:Int):[V.int n,V.int 1] = fq (n:Rat):=by
  unfold fq
  rw [Rat.num_intCast,Rat.den_intCast]
  rfl
end L2
namespace Sw
theorem SzQ.min {z:Nat} {a b:Rat} (ha:SzQ z a) (hb:SzQ z b):SzQ z (min a b):=by
  rw [Rat.min_def]
  split
  · exact ha
  · exact hb
end Sw
namespace L2
open PySem PySem.Spec PyProof.Rows
def But (p:Addr) (H H':Hp):Prop:=∀ b o,b≠p→H b=some o→H' b=some o
theorem putF_len:∀ {fs:List (Str×V)} {f:Str} {v w:V},fs.lookup f=some w→(putF f v fs).length=fs.length
  | [],f,v,w,h=>by cases h
  | (g,x) :: r,f,v,w,h=>by
    unfold putF
    by_cases e:g=f
    · rw [if_pos e]; rfl
    · rw [if_neg e]
      have hb:(f == g)=false:=beq_eq_false_iff_ne.mpr fun z=>e z.symm
      simp only [List.lookup,hb] at h
      show (putF f v r).length+1=r.length+1
      rw [putF_len h]
theorem putF_len':∀ {fs:List (Str×V)} {f:Str} {v:V},(putF f v fs).length≤fs.length+1
  | [],f,v=>Nat.le_refl _
  | (g,x) :: r,f,v=>by
    unfold putF
    by_cases e:g=f
    · rw [if_pos e]; exact Nat.le_succ _
    · rw [if_neg e]
      show (putF f v r).length+1≤r.length+1+1
      have:=putF_len' (fs:=r) (f:=f) (v:=v)
      omega
end L2
namespace L2
open PySem PySem.Spec PyProof.Rows
def rFld (K:PySem.W.Frag) (f:Str) (x:V) (H:Hp) (Q:VK):Prop:=∃ a C dx fs v,x = .ref a∧H a=some (.ins C dx fs)∧Cls K C∧NoAttr K C f∧fs.lookup f=some v∧Q v H
theorem tFld_eq {K:PySem.W.Frag} {ta:TE} {f:Str} {σ:St} {H:Hp} {Q:VK}:tFld K ta f σ H Q=ta σ H fun x H1=>rFld K f x H1 Q:=rfl
theorem fldR_at {K:PySem.W.Frag} {f:Str} {a C dx:Addr} {fs:List (Str×V)} {v:V} {H:Hp} {Q:VK} (h:H a=some (.ins C dx fs)) (c:Cls K C) (n:NoAttr K C f) (l:fs.lookup f=some v) (q:Q v H):rFld K f (.ref a) H Q:=⟨a,C,dx,fs,v,rfl,h,c,n,l,q⟩
def rSet (K:PySem.W.Frag) (f:Str) (y x:V) (H:Hp) (Z:Hp→Prop):Prop:=∃ a C dx fs,x = .ref a∧H a=some (.ins C dx fs)∧Cls K C∧NoAttr K C f∧fs.length<1000∧Z (upd H a (.ins C dx (putF f y fs)))
theorem sFld_eq {K:PySem.W.Frag} {ta tv:TE} {f:Str} {D:Ends} {σ:St} {H:Hp}:sFld K ta tv f D σ H=tv σ H fun y H1=>ta σ H1 fun x H2=>rSet K f y x H2 (D.nx σ):=rfl
theorem set_at {K:PySem.W.Frag} {f:Str} {y:V} {a C dx:Addr} {fs:List (Str×V)} {H:Hp} {Z:Hp→Prop} (h:H a=some (.ins C dx fs)) (c:Cls K C) (n:NoAttr K C f) (l:fs.length<1000) (q:Z (upd H a (.ins C dx (putF f y fs)))):rSet K f y (.ref a) H Z:=⟨a,C,dx,fs,rfl,h,c,n,l,q⟩
def rMeth (C:Addr) (m:Str) (x:V) (H:Hp) (Z:Prop):Prop:=∃ a dx fs,x = .ref a∧H a=some (.ins C dx fs)∧fs.lookup m=none∧Z
theorem tMethX_eq {C:Addr} {m:Str} {sp:Sp} {dvs:List V} {Ek:XH} {ta:TE} {t:TA} {σ:St} {H:Hp} {Q:VK} :
    tMethX C m sp dvs Ek ta t σ H Q=ta σ H fun x H1=>rMeth C m x H1 (t σ H1 fun vs H2=>sp (x :: (vs++dvs)) H2 Q (fun v d H'=>Ek v d σ H')):=by
  unfold tMethX rMeth
  rfl
theorem meth_at {C:Addr} {m:Str} {a dx:Addr} {fs:List (Str×V)} {H:Hp} {Z:Prop} (h:H a=some (.ins C dx fs)) (l:fs.lookup m=none) (z:Z):rMeth C m (.ref a) H Z:=⟨a,dx,fs,rfl,h,l,z⟩
theorem same_make {H:Hp} {x dx C:Addr} (h1:H x=none) (h2:H dx=none):Same H (upd (upd H dx (.own x)) x (.ins C dx [])):=fun b o e=>by
  rw [upd_ne (ne_of_none e h1),upd_ne (ne_of_none e h2)]
  exact e
theorem But.same {x:Addr} {H H1 H':Hp} (b:But x H1 H') (s:Same H H1) (h:H x=none):Same H H':=fun c o e=>b c o (ne_of_none e h) (s c o e)
theorem at_int {H:Hp} {p:Addr} {n:Int}:upd H p (.tup [.int n,.int 1]) p=some (.tup (fq (n:Rat))):=by rw [upd_same,fq_int]
end L2
namespace L2
open PySem PySem.Spec PyProof.Rows
theorem nx_step {t:TS} {D:Ends} {σ:St} {H:Hp} (h:∀ R:St→Hp→Prop,(∀ σ H,D.nx σ H→R σ H)→t { D with nx:=R } σ H):t D σ H:=h D.nx fun _ _ x=>x
theorem fq_deep {K:PySem.W.Frag} {H:Hp} {p:Addr} {q:Rat} (h:H p=some (.tup (fq q))):Deep K H (.ref p) (.tuple [.int q.num,.int (q.den:Int)]):=.tup (.of h) (.cons (.int _) (.cons (.int _) .nil))
end L2
namespace L2
open PySem PySem.Spec PyProof.Rows
end L2
namespace Sw
end Sw
namespace L2
open PySem PySem.Spec PyProof.Rows
end L2
namespace L2
open PySem PySem.Spec PyProof.Rows
section
variable {κ:Type} [DecidableEq κ]
def valV (kvs:List (κ×V)) (k:κ):Option V:=(kvs.find? fun kv=>decide (kv.1=k)).map (·.2)
def putK (kvs:List (κ×V)) (k:κ) (v:V):List (κ×V) :=
  if (kvs.any fun kv=>decide (kv.1=k))=true then kvs.map (fun kv=>if kv.1=k then (kv.1,v) else kv) else kvs++[(k,v)]
theorem valV_pos {p:κ×V} {r:List (κ×V)} {k:κ} (e:p.1=k):valV (p :: r) k=some p.2:=by simp [valV,List.find?_cons,e]
theorem valV_neg {p:κ×V} {r:List (κ×V)} {k:κ} (e:¬ p.1=k):valV (p :: r) k=valV r k:=by simp [valV,List.find?_cons,e]
theorem valV_any (k:κ):∀ kvs:List (κ×V),(kvs.any fun kv=>decide (kv.1=k))=(valV kvs k).isSome
  | []=>rfl
  | p :: r=>by
    rw [List.any_cons]
    by_cases e:p.1=k
    · simp only [valV_pos e,decide_eq_true e,Bool.true_or,Option.isSome_some]
    · rw [valV_neg e,decide_eq_false e,Bool.false_or]; exact valV_any k r
theorem valV_map (k j:κ) (y:V):∀ kvs:List (κ×V),valV (kvs.map fun kv=>if kv.1=k then (kv.1,y) else kv) j=(valV kvs j).map fun x=>if j=k then y else x
  | []=>rfl
  | p :: r=>by
    have ih:=valV_map k j y r
    rw [List.map_cons]
    by_cases h:p.1=k
    · rw [if_pos h]
      by_cases e:p.1=j
      · rw [valV_pos (p:=(p.1,y)) e,valV_pos e,Option.map_some,if_pos (e.symm.trans h)]
      · rw [valV_neg (p:=(p.1,y)) e,valV_neg e,ih]
    · rw [if_neg h]
      by_cases e:p.1=j
      · rw [valV_pos (p:=p) e,valV_pos e,Option.map_some,if_neg (fun z=>h (e.trans z))]
      · rw [valV_neg (p:=p) e,valV_neg e,ih]
theorem valV_snoc (k j:κ) (y:V):∀ kvs:List (κ×V),valV kvs k=none→valV (kvs++[(k,y)]) j=if j=k then some y else valV kvs j
  | [],_=>by
    by_cases e:k=j
    · rw [if_pos e.symm]; exact valV_pos (p:=(k,y)) e
    · rw [if_neg (fun z=>e z.symm)]; exact valV_neg (p:=(k,y)) e
  | p :: r,hn=>by
    rw [List.cons_append]
    have hk:¬ p.1=k:=fun z=>by rw [valV_pos z] at hn; cases hn
    rw [valV_neg hk] at hn
    have ih:=valV_snoc k j y r hn
    by_cases e:p.1=j
    · rw [valV_pos e,valV_pos e,if_neg (fun z=>hk (e.trans z))]
    · rw [valV_neg e,valV_neg e,ih]
theorem valV_put (kvs:List (κ×V)) (k j:κ) (y:V):valV (putK kvs k y) j=if j=k then some y else valV kvs j:=by
  unfold putK
  by_cases a:(kvs.any fun kv=>decide (kv.1=k))=true
  · rw [if_pos a,valV_map]
    rw [valV_any] at a
    by_cases e:j=k
    · obtain ⟨x,hx⟩:=Option.isSome_iff_exists.mp a
      rw [if_pos e,e,hx,Option.map_some,if_pos rfl]
    · rw [if_neg e]
      cases valV kvs j with
      | none=>rfl
      | some x=>rw [Option.map_some,if_neg e]
  · rw [if_neg a]
    refine valV_snoc k j y kvs ?_
    rw [valV_any] at a
    cases q:valV kvs k with
    | none=>rfl
    | some x=>rw [q] at a; exact (a rfl).elim
theorem length_putK (kvs:List (κ×V)) (k:κ) (v:V):(putK kvs k v).length≤kvs.length+1:=by
  unfold putK
  split
  · rw [List.length_map]; omega
  · rw [List.length_append,List.length_cons,List.length_nil]; omega
theorem RelO.isSome_eq {o:Option V} {u:Option Value} (r:RelO o u):o.isSome=u.isSome:=by
  cases o with
  | none=>cases u with
    | none=>rfl
    | some _=>exact (show False from r).elim
  | some _=>cases u with
    | none=>exact (show False from r).elim
    | some _=>rfl
theorem RelO.getD {o:Option V} {u:Option Value} {d:V} {d':Value} (r:RelO o u) (rd:RelV d d'):RelV (o.getD d) (u.getD d'):=by
  cases o with
  | none=>cases u with
    | none=>exact rd
    | some _=>exact (show False from r).elim
  | some _=>cases u with
    | none=>exact (show False from r).elim
    | some _=>exact r
theorem KV.val {kvs:List (κ×V)} {vs:List (κ×Value)} (r:KV kvs vs) (k:κ):RelO (valV kvs k) (valueAt vs k):=by
  unfold KV at r
  induction r with
  | nil=>exact True.intro
  | @cons p q ps qs h t ih =>
    obtain ⟨h1,h2⟩:=h
    by_cases e:p.1=k
    · have e':q.1=k:=h1.symm.trans e
      have b:valueAt (q :: qs) k=some q.2:=by simp [valueAt,List.find?_cons,e']
      rw [valV_pos e,b]; exact h2
    · have e':¬ q.1=k:=fun z=>e (h1.trans z)
      have b:valueAt (q :: qs) k=valueAt qs k:=by simp [valueAt,List.find?_cons,e']
      rw [valV_neg e,b]; exact ih
theorem KV.any {kvs:List (κ×V)} {vs:List (κ×Value)} (r:KV kvs vs) (k:κ):(kvs.any fun kv=>decide (kv.1=k))=vs.any fun kv=>decide (kv.1=k):=by
  unfold KV at r
  induction r with
  | nil=>rfl
  | cons h t ih=>rw [List.any_cons,List.any_cons,ih,h.1]
theorem KV.repl {kvs:List (κ×V)} {vs:List (κ×Value)} (r:KV kvs vs) (k:κ) {y:V} {u:Value} (ry:RelV y u) :
    KV (kvs.map fun kv=>if kv.1=k then (kv.1,y) else kv) (vs.map fun kv=>if kv.1=k then (kv.1,u) else kv):=by
  unfold KV at r ⊢
  induction r with
  | nil=>exact .nil
  | @cons p q ps qs h t ih =>
    rw [List.map_cons,List.map_cons]
    refine .cons ?_ ih
    obtain ⟨h1,h2⟩:=h
    by_cases e:p.1=k
    · rw [if_pos e,if_pos (h1.symm.trans e)]; exact ⟨h1,ry⟩
    · rw [if_neg e,if_neg (fun z=>e (h1.trans z))]; exact ⟨h1,h2⟩
theorem KV.put {kvs:List (κ×V)} {vs:List (κ×Value)} (r:KV kvs vs) (k:κ) {y:V} {u:Value} (ry:RelV y u):KV (putK kvs k y) (stored vs k u):=by
  unfold putK stored
  rw [r.any k]
  by_cases e:(vs.any fun kv=>decide (kv.1=k))=true
  · rw [if_pos e,if_pos e]; exact r.repl k ry
  · rw [if_neg e,if_neg e]; exact Paired.snoc r ⟨rfl,ry⟩
theorem KV.length {kvs:List (κ×V)} {vs:List (κ×Value)} (r:KV kvs vs):kvs.length=vs.length:=Paired.length r
end
theorem kV_is {P:Program} {w:World} {k:Key} {u:Value} (r:RelV (kV k) u):(mixKind P w).is k u=true:=by
  cases k with
  | inl i=>obtain ⟨t,e⟩:=(show ∃ t,u=Value.int i t from r); subst e; exact mixKind_int P w i t
  | inr x=>obtain ⟨t,e⟩:=(show ∃ t,u=Value.str x t from r); subst e; exact mixKind_str P w x t
theorem items_are {P:Program} {w:World}:∀ {ks:List Key} {us:List Value},Vals (ks.map kV) us→ItemsAre (mixKind P w) ks us
  | [],_,r=>by rw [List.map_nil] at r; cases r; exact .nil
  | k :: ks,_,r=>by
    rw [List.map_cons] at r
    cases r with
    | cons h t=>exact .cons (kV_is h) (items_are t)
abbrev KT (H:Hp):List (List Key×V)→List (List Key×Addr×Value)→Prop:=Paired fun p q=>p.1=q.1∧H q.2.1=some (.tup (p.1.map kV))∧RelV p.2 q.2.2
theorem KT.val {H:Hp} {kvs:List (List Key×V)} {xs:List (List Key×Addr×Value)} (r:KT H kvs xs) (k:List Key):RelO (valV kvs k) ((atKey xs k).map (·.2)):=by
  induction r with
  | nil=>exact True.intro
  | @cons p q ps qs h t ih =>
    obtain ⟨h1,_,h2⟩:=h
    by_cases e:p.1=k
    · have e':q.1=k:=h1.symm.trans e
      have b:atKey (q :: qs) k=some q.2:=by simp [atKey,List.find?_cons,e']
      rw [valV_pos e,b]; exact h2
    · have e':¬ q.1=k:=fun z=>e (h1.trans z)
      have b:atKey (q :: qs) k=atKey qs k:=by simp [atKey,List.find?_cons,e']
      rw [valV_neg e,b]; exact ih
theorem KT.repl {H:Hp} {kvs:List (List Key×V)} {xs:List (List Key×Addr×Value)} (r:KT H kvs xs) (k:List Key) {y:V} {u:Value} (ry:RelV y u) :
    KT H (kvs.map fun kv=>if kv.1=k then (kv.1,y) else kv) (xs.map (putAt k u)):=by
  induction r with
  | nil=>exact .nil
  | @cons p q ps qs h t ih =>
    rw [List.map_cons,List.map_cons]
    refine .cons ?_ ih
    obtain ⟨h1,h2,h3⟩:=h
    unfold putAt
    by_cases e:p.1=k
    · rw [if_pos e,if_pos (h1.symm.trans e)]; exact ⟨h1,h2,ry⟩
    · rw [if_neg e,if_neg (fun z=>e (h1.trans z))]; exact ⟨h1,h2,h3⟩
theorem KT.put {H:Hp} {kvs:List (List Key×V)} {xs:List (List Key×Addr×Value)} (r:KT H kvs xs) (k:List Key) {b:Addr} {y:V} {u:Value} (hb:H b=some (.tup (k.map kV))) (ry:RelV y u) :
    KT H (putK kvs k y) (storedH xs k b u):=by
  have e:(kvs.any fun kv=>decide (kv.1=k))=(atKey xs k).isSome:=by
    rw [valV_any,(r.val k).isSome_eq,Option.isSome_map]
  unfold putK storedH
  rw [e]
  by_cases q:(atKey xs k).isSome=true
  · rw [if_pos q,if_pos q]; exact r.repl k ry
  · rw [if_neg q,if_neg q]; exact Paired.snoc r ⟨rfl,hb,ry⟩
theorem KT.keeps {H H':Hp} {kvs:List (List Key×V)} {xs:List (List Key×Addr×Value)} (r:KT H kvs xs) (ht:∀ b ys,H b=some (.tup ys)→H' b=some (.tup ys)):KT H' kvs xs :=
  Paired.mapP r fun _ _ z=>⟨z.1,ht _ _ z.2.1,z.2.2⟩
section
variable {P:Program} {w:World} {H:Hp} {h:Heap} {a:Addr}
theorem rd_of {u:HO} (ok:HOk P w H h) (e:Rd H a u):ObjOk P w H h a u:=e.ok ok
theorem dk_rd {kvs:List (Key×V)} (ok:HOk P w H h) (e:Rd H a (.dK kvs)):kvs.length≤sizeLine∧(a == sysModules)=false∧∃ vs,KV kvs vs∧h.DictOf (mixKind P w) a vs :=
  show ObjOk P w H h a (.dK kvs) from rd_of ok e
theorem dk_of {kvs:List (Key×V)} (ok:HOk P w H h) (e:H a=some (.dK kvs)):kvs.length≤sizeLine∧(a == sysModules)=false∧∃ vs,KV kvs vs∧h.DictOf (mixKind P w) a vs:=dk_rd ok (.inl e)
theorem key_of {ks:List Key} (ok:HOk P w H h) (e:H a=some (.tup (ks.map kV))):(tupleKind (mixKind P w)).is h ks a:=by
  obtain ⟨_,its,r,o,h1,h2,n,h3⟩:=(show ObjOk P w H h a (.tup (ks.map kV)) from ok a _ e)
  exact ⟨o,its.toArray,n,h1,h2,h3,by simpa using items_are r⟩
theorem dt_rd {kvs:List (List Key×V)} (ok:HOk P w H h) (e:Rd H a (.dT kvs)):kvs.length≤sizeLine∧(a == sysModules)=false ∧
    ∃ xs,KT H kvs xs∧h.DictOfH (tupleKind (mixKind P w)) a xs:=by
  obtain ⟨z,y,xs,r,o,es,ep,h1,h2,h3,h4,h5⟩:=(show ObjOk P w H h a (.dT kvs) from rd_of ok e)
  refine ⟨z,y,xs,r,o,es,ep,h1,h2,h3,h4,fun x hx=>?_,h5⟩
  have all:∀ {l:List (List Key×V)} {m:List (List Key×Addr×Value)},KT H l m→∀ x∈m,(tupleKind (mixKind P w)).is h x.1 x.2.1:=by
    intro l m q
    induction q with
    | nil=>intro x hx; exact nomatch hx
    | @cons p q ps qs hq t ih =>
      intro x hx
      rcases List.mem_cons.mp hx with e | hx
      · subst e
        exact key_of ok (by rw [← hq.1]; exact hq.2.1)
      · exact ih x hx
  exact all r x hx
theorem dt_of {kvs:List (List Key×V)} (ok:HOk P w H h) (e:H a=some (.dT kvs)):kvs.length≤sizeLine∧(a == sysModules)=false ∧
    ∃ xs,KT H kvs xs∧h.DictOfH (tupleKind (mixKind P w)) a xs:=dt_rd ok (.inl e)
end
def DGet (H:Hp) (a:Addr) (y:V) (r:Option V):Prop :=
  (∃ kvs k,Rd H a (.dK kvs)∧y=kV k∧r=valV kvs k)∨∃ kvs k b,Rd H a (.dT kvs)∧y = .ref b∧H b=some (.tup (k.map kV))∧r=valV kvs k
def DPut (H:Hp) (a:Addr) (y v:V) (H':Hp):Prop :=
  (∃ kvs k,H a=some (.dK kvs)∧y=kV k∧kvs.length<sizeLine∧H'=upd H a (.dK (putK kvs k v))) ∨
  ∃ kvs k b,H a=some (.dT kvs)∧y = .ref b∧H b=some (.tup (k.map kV))∧kvs.length<sizeLine∧H'=upd H a (.dT (putK kvs k v))
theorem DGet.k {H:Hp} {a:Addr} {kvs:List (Key×V)} {k:Key} (e:H a=some (.dK kvs)):DGet H a (kV k) (valV kvs k):=.inl ⟨kvs,k,.inl e,rfl,rfl⟩
theorem DPut.k {H:Hp} {a:Addr} {kvs:List (Key×V)} {k:Key} {v:V} (e:H a=some (.dK kvs)) (hl:kvs.length<sizeLine):DPut H a (kV k) v (upd H a (.dK (putK kvs k v))):=.inl ⟨kvs,k,e,rfl,hl,rfl⟩
section
variable {X:Cx} {pins:List (Addr×Obj)} {σ:St} {H:Hp} {s:Shared} {a:Addr} {y v:V} {u r:Value} {o:Option V} {A:Around} {E:Value→Shared→Prop}
theorem Inv.big (I:Inv X pins σ H s):sysModules<s.heap.objs.size:=by
  have h:mainGlobals<s.heap.objs.size:=(I.mod.glob.keeps I.bk).lt
  exact Nat.lt_trans (by decide) h
theorem d_getItem {Q:Value→Shared→Prop} (hu:A.units+1<cLine) (I:Inv X pins σ H s) (g:DGet H a y (some v)) (ry:RelV y u) (h:∀ w' s',Inv X pins σ H s'→RelV v w'→Q w' s') :
    wpAny (model X.prog X.w) A (getItem (.ref a) u) Q E s:=by
  rcases g with ⟨kvs,k,e,ey,l⟩ | ⟨kvs,k,b,e,ey,eb,l⟩
  · subst ey
    obtain ⟨z,hd,vs,rel,dd⟩:=dk_rd I.hok e
    obtain ⟨w',hw,rw'⟩:=RelO.some_of (v:=v) (o:=valueAt vs k) (by rw [l]; exact rel.val k)
    exact wpAny_getItem_of (kV_is ry) dd.mapOf hw (h w' _ (I.tok _) rw')
  · subst ey
    cases (show u=Value.ref b from ry)
    obtain ⟨z,hd,xs,rel,dd⟩:=dt_rd I.hok e
    obtain ⟨w',hw,rw'⟩:=RelO.some_of (v:=v) (o:=(atKey xs k).map (·.2)) (by rw [l]; exact rel.val k)
    obtain ⟨p,hp,hp2⟩:=Option.map_eq_some_iff.mp hw
    refine wpAny_getItem_heap (tupleKind_room_in1 hu) (key_of I.hok eb) dd hp ?_
    rw [hp2]
    exact h w' _ (I.tok _) rw'
theorem d_write {h':Heap} {t':Nat} {ob:HO} (I:Inv X pins σ H s) (mu:Mut (H a)) (hs:Heap.SameBut a s.heap h') (he:∃ q,h'.get? a=some q) (new:ObjOk X.prog X.w (upd H a ob) h' a ob) :
    Inv X pins σ (upd H a ob) { s with heap:=h',toks:=t' } :=
  I.write (x:=a) (e:=a) mu (.inl rfl) (fun b q hb z=>(hs.2 b hb).trans z) he new
theorem dk_new {P:Program} {w:World} {H':Hp} {h':Heap} {kvs:List (Key×V)} {vs:List (Key×Value)} (z:kvs.length≤sizeLine) (hd:(a == sysModules)=false) (rel:KV kvs vs) (dd:h'.DictOf (mixKind P w) a vs) :
    ObjOk P w H' h' a (.dK kvs):=⟨z,hd,vs,rel,dd⟩
theorem d_setItem {H':Hp} {Q:Unit→Shared→Prop} (hu:A.units+1<cLine) (I:Inv X pins σ H s) (g:DPut H a y v H') (ry:RelV y u) (rv:RelV v r) (h:∀ s',Inv X pins σ H' s'→Q () s') :
    wpAny (model X.prog X.w) A (setItem (.ref a) u r) Q E s:=by
  rcases g with ⟨kvs,k,e,ey,l,eH⟩ | ⟨kvs,k,b,e,ey,eb,l,eH⟩
  · subst ey eH
    obtain ⟨z,hd,vs,rel,dd⟩:=dk_of I.hok e
    have hz:vs.length≤sizeLine:=by rw [← rel.length]; exact z
    have hl:(putK kvs k v).length≤sizeLine:=by have:=length_putK kvs k v; omega
    refine wpAny_setItem_pairs (hsz:=hz) (kV_is ry) dd fun h' dd' hs=>h _ ?_
    have he:∃ q,h'.get? a=some q:=let ⟨q,_,_,hq,_⟩:=dd'; ⟨q,hq⟩
    exact d_write I (by rw [e]; exact True.intro) hs he (dk_new hl hd (rel.put k rv) dd')
  · subst ey eH
    cases (show u=Value.ref b from ry)
    obtain ⟨z,hd,xs,rel,dd⟩:=dt_of I.hok e
    have hz:xs.length≤sizeLine:=by rw [← Paired.length rel]; exact z
    have hl:(putK kvs k v).length≤sizeLine:=by have:=length_putK kvs k v; omega
    refine wpAny_setItem_heap (hsz:=hz) (tupleKind_room_in1 hu) (key_of I.hok eb) dd fun h' dd' hs=>h _ ?_
    obtain ⟨q,es,ep,hq,h2,h3,h4,_,h5⟩:=dd'
    refine d_write I (by rw [e]; exact True.intro) hs ⟨q,hq⟩ ⟨hl,hd,_,(rel.put k eb rv).keeps fun c ys ec=>?_,q,es,ep,hq,h2,h3,h4,h5⟩
    rw [upd_ne (ne_of ec e (fun z=>nomatch z))]
    exact ec
end
section
variable {X:Cx} {pins:List (Addr×Obj)} {σ:St} {H:Hp} {s:Shared} {a:Addr} {kvs:List (Key×V)} {k:Key} {u:Value} {A:Around} {E:Value→Shared→Prop}
end
def NoSl (i:Expr):Prop:=∀ ov iv,subscripted i false ov iv=operate [ov,iv] (getItem ov iv)
theorem subD_of {prog:Program} {w:World} {A:Around} {E:Value→Shared→Prop} {s:Shared} {env:Env} {value slice:Expr} {pos:Pos} {T id:String} {Q:Value→Shared→Prop}
    (hl:typeLookup (.type T) "__getitem__" = pure (some (.builtin id))) (hs:NoSl slice)
    (h:wpAny (model prog w) A (eval value env) (fun o s₁=>wpAny (model prog w) A (eval slice env) (fun i s₂=>s₂.TypeIs o T∧wpAny (model prog w) A (getItem o i) Q E s₂) E s₁) E s) :
    wpAny (model prog w) A (eval (.Subscript value slice pos) env) Q E s:=by
  refine Subscript_ (wpAny_mono h (fun o s₁ h₁=>wpAny_mono h₁ (fun i s₂ h₂=>?_) fun _ _ x=>x) fun _ _ x=>x)
  obtain ⟨hT,h₂⟩:=h₂
  unfold subscriptTail
  refine wpAny_bind ?_
  rw [getitemInPython_of_ne hT.not_modules]
  refine wpAny_bind (wpAny_specialOf hT hl ?_)
  have fin:wpAny (model prog w) A (subscripted slice false o i) (fun r s₃=>wpAny (model prog w) A (letTemporaryGo value o r >>= fun _=>pure r) Q E s₃) E s₂:=by
    rw [hs o i]
    exact wpAny_operating (wpAny_mono h₂ (fun r s₃ h₃=>wpAny_bind (wpAny_letTemporaryGo (wpAny_pure h₃))) fun _ _ x=>x)
  first
    | exact wpAny_pure (wpAny_bind fin)
    | exact wpAny_bind (wpAny_pure (wpAny_bind fin))
    | exact wpAny_bind fin
theorem dict_typeIs {X:Cx} {pins:List (Addr×Obj)} {σ:St} {H:Hp} {s:Shared} {a:Addr} {y:V} {o:Option V} (I:Inv X pins σ H s) (g:DGet H a y o):s.TypeIs (.ref a) "dict" := by
  rcases g with ⟨kvs,k,e,_,_⟩ | ⟨kvs,k,b,e,_,_,_⟩
  · obtain ⟨_,_,vs,_,dd⟩:=dk_rd I.hok e
    exact dd.typeIs
  · obtain ⟨_,_,xs,_,dd⟩:=dt_rd I.hok e
    exact dd.typeIs
def tDGet (td ty:TE):TE:=fun σ H Q=>td σ H fun x H1=>ty σ H1 fun y H2=>∃ a v,x = .ref a∧DGet H2 a y (some v)∧Q v H2
def tDIn (ty td:TE):TE:=fun σ H Q=>ty σ H fun y H1=>td σ H1 fun x H2=>∃ a o,x = .ref a∧DGet H2 a y o∧Q (.bl o.isSome) H2
def tDNotIn (ty td:TE):TE:=fun σ H Q=>ty σ H fun y H1=>td σ H1 fun x H2=>∃ a o,x = .ref a∧DGet H2 a y o∧Q (.bl (!o.isSome)) H2
def sDPut (td ty tv:TE):TS:=fun D σ H=>tv σ H fun v H1=>td σ H1 fun x H2=>ty σ H2 fun y H3=>∃ a H4,x = .ref a∧DPut H3 a y v H4∧D.nx σ H4
section
variable {X:Cx} {o i e value:Expr} {pos pos' tpos:Pos} {td ty tv:TE}
theorem pe_dget (hu:X.A.units+1<cLine) (ho:PE X o td) (hi:PE X i ty) (hs:NoSl i):PE X (.Subscript o i pos) (tDGet td ty):=by
  intro pins s σ H Q I h
  refine subD_of PySem.F.slot_dict_getitem.lookup hs (thn (ho pins s σ H _ I h) fun u s1 ⟨x,H1,I1,rx,q1⟩=>thn (hi pins s1 σ H1 _ I1 q1) fun iv s2 ⟨y,H2,I2,ry,a,v,ex,g,q2⟩=>?_)
  subst ex
  obtain rfl:u=Value.ref a:=rx
  exact ⟨dict_typeIs I2 g,d_getItem hu I2 g ry fun w' s3 I3 rw'=>⟨v,H2,I3,rw',q2⟩⟩
theorem ps_dput (hu:X.A.units+1<cLine) (ho:PE X o td) (hi:PE X i ty) (hv:PE X value tv) (hs:swapsWith value (some (.Subscript o i pos')) pos.line X.env=pure false) :
    PS X (.Assign [.Subscript o i pos'] value pos) (sDPut td ty tv):=by
  intro pins s σ H D I h
  refine wpAny_Assign_Subscript (thn (hv pins s σ H _ I h) fun r s1 ⟨v,H1,I1,rv,q1⟩=>thn (ho pins s1 σ H1 _ I1 q1) fun u s2 ⟨x,H2,I2,rx,q2⟩=>thn (hi pins s2 σ H2 _ I2 q2) fun iv s3 ⟨y,H3,I3,ry,a,H4,ex,g,q3⟩=>?_) hs
  subst ex
  obtain rfl:u=Value.ref a:=rx
  exact d_setItem hu I3 g ry rv fun s4 I4=>⟨σ,H4,I4,q3⟩
end
theorem dk_empty {P:Program} {w:World} {H:Hp} (h:Heap) (hb:sysModules<h.objs.size):ObjOk P w H (h.push { cls:=.type "dict", data:=.dict #[] }) h.objs.size (.dK []) :=
  ⟨Nat.zero_le _,beq_eq_false_iff_ne.mpr (Ne.symm (Nat.ne_of_lt hb)),[],.nil,Heap.DictOf.new h⟩
def tDNewK:TE:=fun _ H Q=>∀ p,H p=none→Q (.ref p) (upd H p (.dK []))
section
variable {X:Cx} {pos:Pos}
theorem pe_dnewK:PE X (.Dict [] [] pos) tDNewK:=fun pins s σ H Q I h =>
  wpAny_Dict_empty ⟨.ref s.heap.objs.size,_,I.laid (a:=s.heap.objs.size) (o:=.dK []) (t':=s.toks) (fun _ _ q=>Heap.get?_push_of_some _ q) (Nat.le_refl _) (dk_empty s.heap I.big),rfl,h _ (I.hok.fresh (Nat.le_refl _))⟩
end
structure M1 (X:Cx) (o:Expr) (m:Str) (apos:Pos) (e:Expr) (cpos:Pos):Prop where
  base:attributeBase o m X.env (eval o X.env)=eval o X.env
  few:((backTo cpos (starEach [e] X.env)).all (fun x=>!x.1) && (backToKw cpos (keywordEach [] X.env)).all (fun x=>x.1.isSome)
    && decide (([e]:List Expr).length+([]:List Keyword).length+(if ([]:List Keyword).isEmpty then 0 else 1)<30))=true
  line:(apos.endLine == cpos.line)=true
  trees:backTo cpos (starEach [e] X.env) = [(false,eval e X.env)]
structure M2 (X:Cx) (o:Expr) (m:Str) (apos:Pos) (e f:Expr) (cpos:Pos):Prop where
  base:attributeBase o m X.env (eval o X.env)=eval o X.env
  few:((backTo cpos (starEach [e,f] X.env)).all (fun x=>!x.1) && (backToKw cpos (keywordEach [] X.env)).all (fun x=>x.1.isSome)
    && decide (([e,f]:List Expr).length+([]:List Keyword).length+(if ([]:List Keyword).isEmpty then 0 else 1)<30))=true
  line:(apos.endLine == cpos.line)=true
  trees:backTo cpos (starEach [e,f] X.env) = [(false,eval e X.env),(false,eval f X.env)]
def IsD (H:Hp) (a:Addr):Prop:=(∃ kvs,Rd H a (.dK kvs))∨∃ kvs,Rd H a (.dT kvs)
theorem isD_at {X:Cx} {pins:List (Addr×Obj)} {σ:St} {H:Hp} {s:Shared} {a:Addr} (I:Inv X pins σ H s) (d:IsD H a) :
    s.TypeIs (.ref a) "dict" ∧ (∀ b,Value.ref a = .ref b→∃ ob,s.heap.get? b=some ob∧ob.dict=none)∧(a == sysModules)=false:=by
  rcases d with ⟨kvs,e⟩ | ⟨kvs,e⟩
  · obtain ⟨_,hd,vs,_,dd⟩:=dk_rd I.hok e
    refine ⟨dd.typeIs,fun b q=>?_,hd⟩
    cases q
    obtain ⟨ob,_,_,h1,h2,_⟩:=dd
    exact ⟨ob,h1,h2.2.1⟩
  · obtain ⟨_,hd,xs,_,dd⟩:=dt_rd I.hok e
    refine ⟨dd.typeIs,fun b q=>?_,hd⟩
    cases q
    obtain ⟨ob,_,_,h1,h2,_⟩:=dd
    exact ⟨ob,h1,h2.2.1⟩
section
variable {X:Cx} {pins:List (Addr×Obj)} {σ:St} {H:Hp} {s:Shared} {a:Addr} {y d:V} {u r:Value} {o:Option V} {A:Around} {E:Value→Shared→Prop}
theorem d_get2 {Q:Value→Shared→Prop} (hu:A.units+1<cLine) (I:Inv X pins σ H s) (g:DGet H a y o) (ry:RelV y u) (rd:RelV d r) (h:∀ w' s',Inv X pins σ H s'→RelV (o.getD d) w'→Q w' s') :
    wpAny (model X.prog X.w) A (call (.builtin "dict.get") [.ref a,u,r]) Q E s:=by
  rcases g with ⟨kvs,k,e,ey,l⟩ | ⟨kvs,k,b,e,ey,eb,l⟩
  · subst ey
    obtain ⟨z,hd,vs,rel,dd⟩:=dk_rd I.hok e
    refine call_meetsIn PySem.F.slot_dict_get dd.typeIs PySem.F.entry_dict_get (PySem.F.args_dict_get_3 _ _ _) (meets_dict_get_default (mixKind X.prog X.w) a (kV_is ry) hd r) ⟨_,dd.mapOf,h _ _ (I.tok _) ?_⟩
    rw [l]
    exact (rel.val k).getD rd
  · subst ey
    cases (show u=Value.ref b from ry)
    obtain ⟨z,hd,xs,rel,dd⟩:=dt_rd I.hok e
    refine call_meetsIn PySem.F.slot_dict_get dd.typeIs PySem.F.entry_dict_get (PySem.F.args_dict_get_3 _ _ _) (meetsH_dict_get_default (tupleKind (mixKind X.prog X.w)) a b hd r) ⟨tupleKind_room_in1 hu,k,xs,key_of I.hok eb,dd,h _ _ (I.tok _) ?_⟩
    rw [l]
    exact (rel.val k).getD rd
end
def tDGet1 (td ty:TE):TE:=fun σ H Q=>td σ H fun x H1=>∃ a,x = .ref a∧IsD H1 a∧ty σ H1 fun y H2=>∃ o,DGet H2 a y o∧Q (o.getD .non) H2
def tDGet2 (td ty tx:TE):TE:=fun σ H Q=>td σ H fun x H1=>∃ a,x = .ref a∧IsD H1 a∧ty σ H1 fun y H2=>tx σ H2 fun z H3=>∃ o,DGet H3 a y o∧Q (o.getD z) H3
section
variable {X:Cx} {o e f:Expr} {apos cpos:Pos} {td ty tx:TE}
theorem pe_dget2 (hu:X.A.units+1<cLine) (ho:PE X o td) (he:PE X e ty) (hf:PE X f tx) (m:M2 X o "get" apos e f cpos):PE X (.Call (.Attribute o "get" apos) [e,f] [] cpos) (tDGet2 td ty tx):=by
  intro pins s σ H Q I h
  refine wpAny_Call_method m.base m.few m.line PySem.F.plainAttrs_dict PySem.F.slot_dict_get PySem.F.type_dict_get (thn (ho pins s σ H _ I h) fun u s1 ⟨x,H1,I1,rx,a,ex,d,q1⟩=>?_)
  subst ex
  obtain rfl:u=Value.ref a:=rx
  obtain ⟨t1,t2,_⟩:=isD_at I1 d
  refine ⟨t1,t2,?_⟩
  rw [m.trees]
  refine Calls.callWith_builtin rfl (Calls.evalArgs_plain (Calls.spliced_cons (thn (he pins s1 σ H1 _ I1 q1) fun iv s2 ⟨y,H2,I2,ry,q2⟩ =>
    Calls.spliced_cons (thn (hf pins s2 σ H2 _ I2 q2) fun fv s3 ⟨z,H3,I3,rz,ov,g,q3⟩=>Calls.spliced_nil ?_))))
  exact d_get2 hu I3 g ry rz fun w' s4 I4 rw'=>⟨_,H3,I4,rw',q3⟩
end
section
variable {X:Cx} {pins:List (Addr×Obj)} {σ:St} {H:Hp} {s:Shared} {a:Addr} {kvs:List (Key×V)} {A:Around} {E:Value→Shared→Prop}
end
section
variable {X:Cx} {pins:List (Addr×Obj)} {σ:St} {H:Hp} {s:Shared} {a:Addr} {y:V} {u:Value} {A:Around} {E:Value→Shared→Prop}
end
end L2
namespace L2
open PySem PySem.Spec PyProof.Rows
section
variable {X:Cx}
end
section
variable {κ:Type} [DecidableEq κ]
end
end L2
namespace L2
open PySem PySem.Spec PyProof.Rows
def tTru (K:PySem.W.Frag) (ta:TE):TT:=fun σ H Q=>ta σ H fun x H1=>∃ k,TruV K x H1 k∧Q k H1
theorem pt_truthK {X:Cx} (K:PySem.W.Frag) (h:X.K=K) {a:Expr} {ta:TE} (ha:PE X a ta) (he:∀ whole,isTrue a X.env whole=(do let v ← whole; standAt a.pos; holding [v] (truthy v)):=by intro _; rfl):PT X a (tTru K ta):=h ▸ pt_truth ha he
theorem truL {K:PySem.W.Frag} {H:Hp} {p:Addr} {xs:List V} (h:SqL K H p xs):TruV K (.ref p) H (!xs.isEmpty):=.inl ⟨xs,h,rfl⟩
end L2
namespace Sw
abbrev T3:=Rat×Rat×Int
def isHd (m:Rat) (u:T3):Bool:=!decide (m<u.1) && decide (m<u.2.1)
def hds (us:List T3) (m:Rat):List T3:=us.filter (isHd m)
def sumS (hs:List T3):Int:=(hs.map fun u=>u.2.2).sum
def minL:List Rat→Rat
  | []=>0
  | q :: r=>(q :: r).foldl min q
def fstE (hs:List T3):Rat:=minL (hs.map fun u=>u.2.1)
theorem foldl_min_mem:∀ (l:List Rat) (d:Rat),l.foldl min d=d∨l.foldl min d∈l
  | [],d=>.inl rfl
  | q :: r,d=>by
    rcases foldl_min_mem r (min d q) with h | h
    · rw [List.foldl_cons,h,Rat.min_def]
      split
      · exact .inl rfl
      · exact .inr (by simp)
    · exact .inr (by rw [List.foldl_cons]; exact List.mem_cons_of_mem _ h)
theorem minL_mem {l:List Rat} (h:l≠[]):minL l∈l:=by
  cases l with
  | nil=>exact absurd rfl h
  | cons q r =>
    show (q :: r).foldl min q∈q :: r
    rcases foldl_min_mem (q :: r) q with e | e
    · rw [e]; simp
    · exact e
theorem fstE_mem {hs:List T3} (h:hs≠[]):∃ u∈hs,fstE hs=u.2.1:=by
  have:=minL_mem (l:=hs.map fun u=>u.2.1) (by simpa using h)
  obtain ⟨u,hu,e⟩:=List.mem_map.mp this
  exact ⟨u,hu,e.symm⟩
theorem hds_mem {us:List T3} {m:Rat} {u:T3} (h:u∈hds us m):u∈us∧m<u.2.1:=by
  obtain ⟨h1,h2⟩:=List.mem_filter.mp h
  unfold isHd at h2
  simp only [Bool.and_eq_true,Bool.not_eq_true',decide_eq_true_eq] at h2
  exact ⟨h1,h2.2⟩
theorem fstE_gt {us:List T3} {m:Rat} (h:hds us m≠[]):m<fstE (hds us m):=by
  obtain ⟨u,hu,e⟩:=fstE_mem h
  rw [e]; exact (hds_mem hu).2
def ahead (us:List T3) (m:Rat):Nat:=(us.filter fun u=>decide (m<u.2.1)).length
theorem filter_len_lt {α:Type} {p q:α→Bool}:∀ {l:List α},(∀ x∈l,q x=true→p x=true)→(∃ x∈l,p x=true∧q x=false)→(l.filter q).length<(l.filter p).length
  | [],_,⟨x,hx,_⟩=>absurd hx (by simp)
  | y :: r,h,⟨x,hx,h1,h2⟩=>by
    have le:∀ {l:List α},(∀ x∈l,q x=true→p x=true)→(l.filter q).length≤(l.filter p).length:=fun {l}=>by
      induction l with
      | nil=>intro _; exact Nat.le_refl _
      | cons z t ih =>
        intro hh
        have ih:=ih fun x hx=>hh x (List.mem_cons_of_mem _ hx)
        have hz:=hh z (by simp)
        rw [List.filter_cons,List.filter_cons]
        cases e1:q z <;> cases e2:p z <;> simp_all <;> omega
    rcases List.mem_cons.mp hx with e | e
    · subst e
      have:=le (l:=r) fun x hx=>h x (List.mem_cons_of_mem _ hx)
      rw [List.filter_cons,List.filter_cons,h1,h2]
      simp; omega
    · have ih:=filter_len_lt (l:=r) (fun x hx=>h x (List.mem_cons_of_mem _ hx)) ⟨x,e,h1,h2⟩
      have hy:=h y (by simp)
      rw [List.filter_cons,List.filter_cons]
      cases e1:q y <;> cases e2:p y <;> simp_all <;> omega
theorem ahead_lt {us:List T3} {m:Rat} (h:hds us m≠[]):ahead us (fstE (hds us m))<ahead us m:=by
  have gt:=fstE_gt h
  obtain ⟨u,hu,e⟩:=fstE_mem h
  obtain ⟨h1,h2⟩:=hds_mem hu
  refine filter_len_lt (fun x _ hx=>?_) ⟨u,h1,decide_eq_true h2,?_⟩
  · simp only [decide_eq_true_eq] at hx ⊢
    grind
  · rw [e]; simp only [decide_eq_false_iff_not]; grind
def markF (us:List T3) (t:Rat):Nat→Rat→Rat→Rat
  | 0,_,re=>re
  | n+1,mo,re =>
    if hds us re = [] then re
    else if t<mo+(fstE (hds us re)-re)*(sumS (hds us re):Rat) then re+(t-mo) / (sumS (hds us re):Rat)
    else markF us t n (mo+(fstE (hds us re)-re)*(sumS (hds us re):Rat)) (fstE (hds us re))
def markAt (us:List T3) (latest:Int) (reached:Rat) (t:Int):Rat:=markF us (t:Rat) (us.length+1) (latest:Rat) reached
theorem ahead_le (us:List T3) (m:Rat):ahead us m≤us.length:=List.length_filter_le _ _
def Grd (D:Int) (q:Rat):Prop:=∃ n:Int,q=(n:Rat) / (D:Rat)
theorem Grd.int {D:Int} (hD:D≠0) (n:Int):Grd D (n:Rat):=⟨n*D,by have:=q_cast_ne hD; rw [Rat.intCast_mul]; grind⟩
theorem Grd.add {D:Int} {a b:Rat} (h:Grd D a) (k:Grd D b):Grd D (a+b):=by
  obtain ⟨n,rfl⟩:=h
  obtain ⟨m,rfl⟩:=k
  exact ⟨n+m,by rw [Rat.intCast_add]; grind⟩
theorem Grd.sub {D:Int} {a b:Rat} (h:Grd D a) (k:Grd D b):Grd D (a-b):=by
  obtain ⟨n,rfl⟩:=h
  obtain ⟨m,rfl⟩:=k
  exact ⟨n-m,by rw [Rat.intCast_sub]; grind⟩
theorem Grd.muli {D:Int} {a:Rat} (h:Grd D a) (k:Int):Grd D (a*(k:Rat)):=by
  obtain ⟨n,rfl⟩:=h
  exact ⟨n*k,by rw [Rat.intCast_mul]; grind⟩
theorem Grd.divi {D:Int} {a:Rat} (hD:D≠0) (h:Grd D a) {k:Int} (hk:k≠0):Grd (D*k) (a / (k:Rat)):=by
  obtain ⟨n,rfl⟩:=h
  have h1:=q_cast_ne hD
  have h2:=q_cast_ne hk
  exact ⟨n,by rw [Rat.intCast_mul]; grind⟩
theorem Grd.more {D:Int} {a:Rat} (hD:D≠0) (h:Grd D a) {k:Int} (hk:k≠0):Grd (D*k) a:=by
  obtain ⟨n,rfl⟩:=h
  have h1:=q_cast_ne hD
  have h2:=q_cast_ne hk
  exact ⟨n*k,by rw [Rat.intCast_mul,Rat.intCast_mul]; grind⟩
theorem Grd.sz {D M:Int} {a b:Nat} {q:Rat} (h:Grd D q) (hD:0<D) (zD:Sz a D) (zM:Sz b M) (h1:-(M:Rat)≤q) (h2:q≤(M:Rat)) (hb:1≤b):SzQ (a+b) q:=by
  obtain ⟨n,rfl⟩:=h
  have dp:=q_cast_pos hD
  have dn:=q_cast_ne (show D≠0 by omega)
  refine .of (by omega) rfl ((zD.mul zM).le ?_) (zD.mono (by omega))
  have e:(n:Rat) / (D:Rat)*(D:Rat)=(n:Rat):=by grind
  have u:(n:Rat)≤((M*D:Int):Rat):=by
    rw [← e,Rat.intCast_mul]
    exact Rat.mul_le_mul_of_nonneg_right h2 (by grind)
  have l:((-(M*D):Int):Rat)≤(n:Rat):=by
    rw [← e,Rat.intCast_neg,Rat.intCast_mul,show -((M:Rat)*(D:Rat)) = -(M:Rat)*(D:Rat) by grind]
    exact Rat.mul_le_mul_of_nonneg_right h1 (by grind)
  have u':=Rat.intCast_le_intCast.mp u
  have l':=Rat.intCast_le_intCast.mp l
  rw [Int.mul_comm D M]
  omega
end Sw
namespace L2
open PySem PySem.Spec PyProof.Rows
theorem while_m {c:TT} {tb:TS} {D:Ends} {σ:St} {H:Hp} (W:Nat→St→Hp→Prop) {m0:Nat} (h0:W m0 σ H)
    (hs:∀ m σ H,W m σ H→∃ b:Bool,(∀ Q:Bool→Hp→Prop,Q b H→c σ H Q)∧(b=true→tb { D with nx:=fun σ' H'=>∃ m',m' < m∧W m' σ' H',ct:=fun σ' H'=>∃ m',m' < m∧W m' σ' H',bk:=D.nx } σ H)∧(b=false→D.nx σ H)):tWhile c tb D σ H:=by
  refine ⟨W,⟨_,h0⟩,fun m σ H p=>?_⟩
  obtain ⟨b,hc,h1,h2⟩:=hs m σ H p
  refine hc _ ?_
  cases b with
  | true=>exact ⟨_,fun σ' H' z=>z,h1 rfl⟩
  | false=>exact h2 rfl
def TagAt (H:Hp) (p:Addr) (u:Sw.T3):Prop:=∃ pb pe,H p=some (.tup [.ref pb,.ref pe,.int u.2.2])∧H pb=some (.tup (fq u.1))∧H pe=some (.tup (fq u.2.1))
abbrev TagsAt (H:Hp) (ps:List Addr) (us:List Sw.T3):Prop:=Paired (TagAt H) ps us
theorem TagAt.keep {H H':Hp} {p:Addr} {u:Sw.T3} (h:TagAt H p u) (e:∀ p xs,H p=some (.tup xs)→H' p=some (.tup xs)):TagAt H' p u:=by
  obtain ⟨pb,pe,h1,h2,h3⟩:=h
  exact ⟨pb,pe,e _ _ h1,e _ _ h2,e _ _ h3⟩
theorem tags_keep {H H':Hp} {ps:List Addr} {us:List Sw.T3} (h:TagsAt H ps us) (e:∀ p xs,H p=some (.tup xs)→H' p=some (.tup xs)):TagsAt H' ps us:=Paired.mapP h fun _ _ q=>q.keep e
theorem tags_same {H H':Hp} {ps:List Addr} {us:List Sw.T3} (h:TagsAt H ps us) (e:Same H H'):TagsAt H' ps us:=tags_keep h fun _ _ q=>e _ _ q
theorem tags_len {H:Hp} {ps:List Addr} {us:List Sw.T3} (h:TagsAt H ps us):ps.length=us.length:=Paired.length h
theorem paired_snoc {α β:Type} {F:α→β→Prop} {a:α} {b:β} (h:F a b):∀ {l₁:List α} {l₂:List β},Paired F l₁ l₂→Paired F (l₁++[a]) (l₂++[b])
  | _,_,Paired.nil=>.cons h .nil
  | _,_,Paired.cons x y=>.cons x (paired_snoc h y)
theorem paired_get {α β:Type} {F:α→β→Prop}:∀ {l₁:List α} {l₂:List β} {i:Nat} {a:α},Paired F l₁ l₂→l₁[i]? = some a→∃ b,l₂[i]? = some b∧F a b
  | _,_,_,_,Paired.nil,e=>by simp at e
  | _,_,0,_,Paired.cons x _,e=>by simp at e; subst e; exact ⟨_,rfl,x⟩
  | _,_,i+1,_,Paired.cons _ y,e=>by
    obtain ⟨b,h1,h2⟩:=paired_get (i:=i) y (by simpa using e)
    exact ⟨b,by simpa using h1,h2⟩
theorem take_succ_of {α:Type} {l:List α} {i:Nat} {x:α} (h:l[i]? = some x):l.take (i+1)=l.take i++[x]:=by
  rw [List.take_add_one,h]; rfl
structure TagOk (D B:Int) (u:Sw.T3):Prop where
  b:Sw.Grd D u.1
  e:Sw.Grd D u.2.1
  b0:0≤u.1
  be:u.1≤u.2.1
  eB:u.2.1≤(B:Rat)
  s1:1≤u.2.2
  s2:u.2.2≤1000000
theorem sumS_ok {D B:Int}:∀ {hs:List Sw.T3},(∀ u∈hs,TagOk D B u)→hs≠[]→1≤Sw.sumS hs∧Sw.sumS hs≤hs.length*1000000
  | [],_,h=>absurd rfl h
  | [u],h,_=>by
    have t:=h u (by simp)
    have a:=t.s1
    have b:=t.s2
    unfold Sw.sumS
    simp
    omega
  | u :: v :: r,h,_=>by
    have t:=h u (by simp)
    have a:=t.s1
    have b:=t.s2
    have ih:=sumS_ok (hs:=v :: r) (fun x hx=>h x (List.mem_cons_of_mem _ hx)) (by simp)
    have e:Sw.sumS (u :: v :: r)=u.2.2+Sw.sumS (v :: r):=by unfold Sw.sumS; simp
    rw [e]
    simp only [List.length_cons] at ih ⊢
    omega
structure GB (D B:Int):Prop where
  D0:0<D
  Dz:Sw.Sz 1500 D
  B0:0≤B
  B1:B≤10000000000
theorem GB.sz {D B M:Int} {q:Rat} (g:GB D B) (h:Sw.Grd D q) (h1:-(M:Rat)≤q) (h2:q≤(M:Rat)) (m1:-100000000000000000000<M) (m2:M<100000000000000000000):Sw.SzQ 1570 q :=
  h.sz g.D0 g.Dz (Sw.Sz.r18 m1 m2) h1 h2 (by decide)
theorem GB.szB {D B:Int} {q:Rat} (g:GB D B) (h:Sw.Grd D q) (h1:0≤q) (h2:q≤(B:Rat)):Sw.SzQ 1570 q:=by
  have b0:=g.B0
  have b1:=g.B1
  have:(0:Rat)≤(B:Rat):=by grind
  exact g.sz h (by grind) h2 (by omega) (by omega)
structure FT (fs:List (Str×V)) (lat:Int) (pr pu pe:Addr):Prop where
  lat:fs.lookup ("latest" : Str)=some (.int lat)
  rch:fs.lookup ("reached" : Str)=some (.ref pr)
  unf:fs.lookup ("unflowed" : Str)=some (.ref pu)
  lst:fs.lookup ("last_ends" : Str)=some (.ref pe)
  no:∀ m:Str,¬ m = "latest" → ¬ m = "reached" → ¬ m = "unflowed" → ¬ m = "last_ends" → fs.lookup m=none
  len:fs.length<900
structure TdM (C:Addr) (H:Hp) (p:Addr) (lat:Int) (re:Rat) (us:List Sw.T3):Prop where
  ex:∃ dx fs pr pu pe ps,H p=some (.ins C dx fs)∧FT fs lat pr pu pe∧H pr=some (.tup (fq re))∧H pu=some (.lst (ps.map V.ref))∧TagsAt H ps us
structure TideOk (D B lat:Int) (re:Rat) (us:List Sw.T3):Prop where
  gb:GB D B
  gre:Sw.Grd D re
  re0:0≤re
  reB:re≤(B:Rat)
  tus:∀ u∈us,TagOk D B u
  len:us.length≤100
  l0:0≤lat
  l1:lat<1000000000000000
theorem TideOk.zr {D B lat:Int} {re:Rat} {us:List Sw.T3} (o:TideOk D B lat re us):Sw.SzQ 1570 re:=o.gb.szB o.gre o.re0 o.reB
theorem TideOk.zu {D B lat:Int} {re:Rat} {us:List Sw.T3} (o:TideOk D B lat re us) (u:Sw.T3) (h:u∈us):Sw.SzQ 5000 u.1∧Sw.SzQ 5000 u.2.1:=by
  have t:=o.tus u h
  have be:=t.be
  have b0:=t.b0
  have eB:=t.eB
  exact ⟨(o.gb.szB t.b b0 (by grind)).mono (by decide),(o.gb.szB t.e (by grind) eB).mono (by decide)⟩
theorem TideOk.lat0 {D B lat:Int} {re:Rat} {us:List Sw.T3} (o:TideOk D B lat re us):(0:Rat)≤(lat:Rat):=by
  have:((0:Int):Rat)≤(lat:Rat):=Rat.intCast_le_intCast.mpr o.l0
  exact this
end L2
namespace L2
open PySem PySem.Spec PyProof.Rows
theorem n_latest_reached:¬ (("latest" : Str) = "reached"):=by decide +kernel
theorem n_latest_unflowed:¬ (("latest" : Str) = "unflowed"):=by decide +kernel
theorem n_latest_last_ends:¬ (("latest" : Str) = "last_ends"):=by decide +kernel
theorem n_reached_latest:¬ (("reached" : Str) = "latest"):=by decide +kernel
theorem n_reached_unflowed:¬ (("reached" : Str) = "unflowed"):=by decide +kernel
theorem n_reached_last_ends:¬ (("reached" : Str) = "last_ends"):=by decide +kernel
theorem n_unflowed_latest:¬ (("unflowed" : Str) = "latest"):=by decide +kernel
theorem n_unflowed_reached:¬ (("unflowed" : Str) = "reached"):=by decide +kernel
theorem n_unflowed_last_ends:¬ (("unflowed" : Str) = "last_ends"):=by decide +kernel
theorem n_last_ends_latest:¬ (("last_ends" : Str) = "latest"):=by decide +kernel
theorem n_last_ends_reached:¬ (("last_ends" : Str) = "reached"):=by decide +kernel
theorem n_last_ends_unflowed:¬ (("last_ends" : Str) = "unflowed"):=by decide +kernel
theorem FT.put_lat {fs:List (Str×V)} {lat:Int} {pr pu pe:Addr} {l':Int} (h:FT fs lat pr pu pe):FT (putF "latest" (.int l') fs) l' pr pu pe:=by
  refine ⟨?_,?_,?_,?_,fun m h1 h2 h3 h4=>?_,?_⟩
  · rw [lookup_putF,if_pos rfl]
  · rw [lookup_putF,if_neg n_reached_latest]; exact h.rch
  · rw [lookup_putF,if_neg n_unflowed_latest]; exact h.unf
  · rw [lookup_putF,if_neg n_last_ends_latest]; exact h.lst
  · rw [lookup_putF,if_neg h1]; exact h.no m h1 h2 h3 h4
  · rw [putF_len h.lat]; exact h.len
theorem FT.put_rch {fs:List (Str×V)} {lat:Int} {pr pu pe:Addr} {r':Addr} (h:FT fs lat pr pu pe):FT (putF "reached" (.ref r') fs) lat r' pu pe:=by
  refine ⟨?_,?_,?_,?_,fun m h1 h2 h3 h4=>?_,?_⟩
  · rw [lookup_putF,if_neg n_latest_reached]; exact h.lat
  · rw [lookup_putF,if_pos rfl]
  · rw [lookup_putF,if_neg n_unflowed_reached]; exact h.unf
  · rw [lookup_putF,if_neg n_last_ends_reached]; exact h.lst
  · rw [lookup_putF,if_neg h2]; exact h.no m h1 h2 h3 h4
  · rw [putF_len h.rch]; exact h.len
theorem FT.put_unf {fs:List (Str×V)} {lat:Int} {pr pu pe:Addr} {u':Addr} (h:FT fs lat pr pu pe):FT (putF "unflowed" (.ref u') fs) lat pr u' pe:=by
  refine ⟨?_,?_,?_,?_,fun m h1 h2 h3 h4=>?_,?_⟩
  · rw [lookup_putF,if_neg n_latest_unflowed]; exact h.lat
  · rw [lookup_putF,if_neg n_reached_unflowed]; exact h.rch
  · rw [lookup_putF,if_pos rfl]
  · rw [lookup_putF,if_neg n_last_ends_unflowed]; exact h.lst
  · rw [lookup_putF,if_neg h3]; exact h.no m h1 h2 h3 h4
  · rw [putF_len h.unf]; exact h.len
theorem FT.mk0 (pr pu pe:Addr):FT (putF "last_ends" (.ref pe) (putF "unflowed" (.ref pu) (putF "reached" (.ref pr) (putF "latest" (.int 0) [])))) 0 pr pu pe:=by
  refine ⟨?_,?_,?_,?_,fun m h1 h2 h3 h4=>?_,?_⟩
  · rw [lookup_putF,if_neg n_latest_last_ends,lookup_putF,if_neg n_latest_unflowed,lookup_putF,if_neg n_latest_reached,lookup_putF,if_pos rfl]
  · rw [lookup_putF,if_neg n_reached_last_ends,lookup_putF,if_neg n_reached_unflowed,lookup_putF,if_pos rfl]
  · rw [lookup_putF,if_neg n_unflowed_last_ends,lookup_putF,if_pos rfl]
  · rw [lookup_putF,if_pos rfl]
  · rw [lookup_putF,if_neg h4,lookup_putF,if_neg h3,lookup_putF,if_neg h2,lookup_putF,if_neg h1]; rfl
  · have a1:=putF_len' (fs:=[]) (f := "latest") (v:=.int 0)
    have a2:=putF_len' (fs:=putF "latest" (.int 0) []) (f := "reached") (v:=.ref pr)
    have a3:=putF_len' (fs:=putF "reached" (.ref pr) (putF "latest" (.int 0) [])) (f := "unflowed") (v:=.ref pu)
    have a4:=putF_len' (fs:=putF "unflowed" (.ref pu) (putF "reached" (.ref pr) (putF "latest" (.int 0) []))) (f := "last_ends") (v:=.ref pe)
    simp only [List.length_nil] at a1
    omega
def EnAt (H:Hp) (kvs:List (Key×V)) (en:Int→Option Rat):Prop:=∀ w:Int,(en w=none∧valV kvs (Sum.inl w:Key)=none)∨∃ e q,en w=some e∧valV kvs (Sum.inl w:Key)=some (.ref q)∧H q=some (.tup (fq e))
theorem EnAt.keep {H H':Hp} {kvs:List (Key×V)} {en:Int→Option Rat} (h:EnAt H kvs en) (e:∀ p xs,H p=some (.tup xs)→H' p=some (.tup xs)):EnAt H' kvs en:=fun w=>by
  rcases h w with z | ⟨x,q,h1,h2,h3⟩
  · exact .inl z
  · exact .inr ⟨x,q,h1,h2,e _ _ h3⟩
def setE (en:Int→Option Rat) (w:Int) (e:Rat):Int→Option Rat:=fun v=>if v=w then some e else en v
theorem EnAt.put {H:Hp} {kvs:List (Key×V)} {en:Int→Option Rat} {w:Int} {e:Rat} {q:Addr} (h:EnAt H kvs en) (hq:H q=some (.tup (fq e))):EnAt H (putK kvs (Sum.inl w) (.ref q)) (setE en w e):=fun v=>by
  rw [valV_put]
  unfold setE
  by_cases hv:v=w
  · subst hv
    rw [if_pos rfl,if_pos rfl]
    exact .inr ⟨e,q,rfl,rfl,hq⟩
  · rw [if_neg hv,if_neg (by intro z; exact hv (Sum.inl.inj z))]
    exact h v
structure Td (C:Addr) (H:Hp) (p pe:Addr) (lat:Int) (re:Rat) (us:List Sw.T3) (en:Int→Option Rat) (m:Nat):Prop where
  ex:∃ dx fs pr pu ps kvs,H p=some (.ins C dx fs)∧FT fs lat pr pu pe∧H pr=some (.tup (fq re))∧H pu=some (.lst (ps.map V.ref))∧TagsAt H ps us∧H pe=some (.dK kvs)∧EnAt H kvs en∧kvs.length≤m∧us.length≤m
theorem Td.m {C:Addr} {H:Hp} {p pe:Addr} {lat:Int} {re:Rat} {us:List Sw.T3} {en:Int→Option Rat} {m:Nat} (h:Td C H p pe lat re us en m):TdM C H p lat re us:=by
  obtain ⟨dx,fs,pr,pu,ps,kvs,h1,h2,h3,h4,h5,_⟩:=h.ex
  exact ⟨dx,fs,pr,pu,pe,ps,h1,h2,h3,h4,h5⟩
theorem Td.same {C:Addr} {H H':Hp} {p pe:Addr} {lat:Int} {re:Rat} {us:List Sw.T3} {en:Int→Option Rat} {m:Nat} (h:Td C H p pe lat re us en m) (s:Same H H'):Td C H' p pe lat re us en m:=by
  obtain ⟨dx,fs,pr,pu,ps,kvs,h1,h2,h3,h4,h5,h6,h7,h8⟩:=h.ex
  exact ⟨dx,fs,pr,pu,ps,kvs,s _ _ h1,h2,s _ _ h3,s _ _ h4,tags_same h5 s,s _ _ h6,h7.keep fun _ _ q=>s _ _ q,h8⟩
def Kept (p d:Addr) (H H':Hp):Prop:=∀ b o,b≠p→b≠d→H b=some o→H' b=some o
theorem Same.kept {p d:Addr} {H H':Hp} (h:Same H H'):Kept p d H H':=fun b o _ _ e=>h b o e
theorem Kept.trans {p d:Addr} {H H1 H2:Hp} (a:Kept p d H H1) (b:Kept p d H1 H2):Kept p d H H2:=fun c o n1 n2 h=>b c o n1 n2 (a c o n1 n2 h)
end L2
namespace Sw
open L2
theorem markF_ok {us:List T3} {D B:Int} {t:Int} (gb:GB D B) (ok:∀ u∈us,TagOk D B u) (lu:us.length≤100):∀ (n:Nat) (mo re:Rat),Grd D mo→mo≤(t:Rat)→Grd D re→0≤re→re≤(B:Rat) →
    (∃ S:Int,1≤S∧S≤us.length*1000000+1∧Grd (D*S) (markF us (t:Rat) n mo re))∧re≤markF us (t:Rat) n mo re∧markF us (t:Rat) n mo re≤(B:Rat)
  | 0,mo,re,gm,hm,gr,r0,r1=>⟨⟨1,by decide,by omega,gr.more (by have:=gb.D0; omega) (by decide)⟩,by unfold markF; grind,by unfold markF; exact r1⟩
  | n+1,mo,re,gm,hm,gr,r0,r1=>by
    have D0:D≠0:=by have:=gb.D0; omega
    unfold markF
    by_cases hn:hds us re = []
    · rw [if_pos hn]
      exact ⟨⟨1,by decide,by omega,gr.more D0 (by decide)⟩,by grind,r1⟩
    · rw [if_neg hn]
      have gt:=fstE_gt hn
      have hok:∀ u∈hds us re,TagOk D B u:=fun u h=>ok u (hds_mem h).1
      have hS:=sumS_ok hok hn
      have hl:(hds us re).length≤us.length:=List.length_filter_le _ _
      obtain ⟨uf,huf,ef⟩:=fstE_mem hn
      have gf:Grd D (fstE (hds us re)):=by rw [ef]; exact (hok uf huf).e
      have fB:fstE (hds us re)≤(B:Rat):=by rw [ef]; exact (hok uf huf).eB
      generalize fstE (hds us re)=fv at gt gf fB ⊢
      generalize sumS (hds us re)=S at hS ⊢
      have Sp:(0:Rat)<(S:Rat):=q_cast_pos (by omega)
      by_cases hlt:(t:Rat)<mo+(fv-re)*(S:Rat)
      · rw [if_pos hlt]
        have x0:0≤((t:Rat)-mo) / (S:Rat):=by
          have:¬ ((t:Rat)-mo) / (S:Rat)<0:=by rw [Rat.div_lt_iff Sp]; grind
          grind
        have x1:((t:Rat)-mo) / (S:Rat)<fv-re:=by rw [Rat.div_lt_iff Sp]; grind
        refine ⟨⟨S,hS.1,by omega,(gr.more D0 (by omega)).add (((Grd.int D0 t).sub gm).divi D0 (by omega))⟩,by grind,by grind⟩
      · rw [if_neg hlt]
        have ih:=markF_ok (t:=t) gb ok lu n (mo+(fv-re)*(S:Rat)) fv (gm.add ((gf.sub gr).muli S)) (by grind) gf (by grind) fB
        exact ⟨ih.1,by have:=ih.2.1; grind,ih.2.2⟩
theorem markAt_ok {us:List T3} {D B lat:Int} {re:Rat} {t:Int} (o:TideOk D B lat re us) (h:lat≤t) :
    (∃ S:Int,1≤S∧S≤us.length*1000000+1∧Grd (D*S) (markAt us lat re t))∧re≤markAt us lat re t∧markAt us lat re t≤(B:Rat) :=
  markF_ok o.gb o.tus o.len _ _ _ (Grd.int (by have:=o.gb.D0; omega) lat) (Rat.intCast_le_intCast.mpr h) o.gre o.re0 o.reB
def begOn (en:Int→Option Rat) (rv:Rat) (w:Int):Rat:=max rv ((en w).getD rv)
def usOn (us:List T3) (rv b:Rat) (len sh:Int):List T3:=(us.filter fun u=>decide (rv<u.2.1))++[(b,b+(len:Rat) / (sh:Rat),sh)]
end Sw
namespace L2
open PySem PySem.Spec PyProof.Rows
end L2
namespace L2
open PySem PySem.Spec PyProof.Rows
def Ite1 (K:PySem.W.Frag) (a:Addr):It :=
  ⟨fun i H=>∃ xs x,SqL K H a xs∧xs[i]? = some x,
   fun i H y H'=>∃ p x,y = .ref p∧H p=none∧(∀ xs,SqL K H a xs→xs[i]? = some x)∧H'=upd H p (.tup [.int ((i+1:Nat):Int),x]),
   fun i H=>∃ xs,SqL K H a xs∧xs.length=i⟩
section
variable {X:Cx}
def iEnum1 (K:PySem.W.Frag) (ta:TA):TI:=fun σ H R=>ta σ H fun vs H1=>∃ a,vs = [.ref a]∧(∃ xs,SqL K H1 a xs)∧R (Ite1 K a) H1
end
end L2
namespace L2
open PySem PySem.Spec PyProof.Rows
section
variable {X:Cx}
def Itv (K:PySem.W.Frag) (a:Addr) (xs:List V):It :=
  ⟨fun i H=>SqL K H a xs∧i<xs.length,fun i H x H'=>H'=H∧xs.reverse[i]? = some x,fun i H=>SqL K H a xs∧xs.length=i⟩
def iRev (K:PySem.W.Frag) (ta:TA):TI:=fun σ H R=>ta σ H fun vs H1=>∃ a xs,vs = [.ref a]∧SqL K H1 a xs∧R (Itv K a xs) H1
end
end L2
namespace L2
end L2
namespace L2
open PySem PySem.Spec PyProof.Rows
def DSd (H:Hp) (a:Addr) (y d:V) (v:V) (H':Hp):Prop:=∃ kvs k,H a=some (.dK kvs)∧y=kV k∧kvs.length<sizeLine∧((valV kvs k=some v∧H'=H)∨(valV kvs k=none∧v=d∧H'=upd H a (.dK (putK kvs k d))))
section
variable {X:Cx} {pins:List (Addr×Obj)} {σ:St} {H H':Hp} {s:Shared} {a:Addr} {y d v:V} {u r:Value} {A:Around} {E:Value→Shared→Prop}
end
def tDSd (td ty tx:TE):TE:=fun σ H Q=>td σ H fun x H1=>∃ a,x = .ref a∧IsD H1 a∧ty σ H1 fun y H2=>tx σ H2 fun z H3=>∃ v H4,DSd H3 a y z v H4∧Q v H4
section
variable {X:Cx} {o e f:Expr} {td ty tx:TE} {apos cpos:Pos}
end
end L2
namespace Sw
open L2
def ov (low high:Rat) (u:T3):Rat:=if u.2.1≤low then 0 else if high≤u.1 then 0 else (if u.2.1≤high then u.2.1 else high)-(if low≤u.1 then u.1 else low)
theorem foldl_min_le:∀ (l:List Rat) (d:Rat),l.foldl min d≤d∧∀ x∈l,l.foldl min d≤x
  | [],d=>⟨by show d≤d; grind,fun x h=>absurd h List.not_mem_nil⟩
  | q :: r,d=>by
    obtain ⟨h1,h2⟩:=foldl_min_le r (min d q)
    have hm:min d q≤d∧min d q≤q:=by rw [Rat.min_def]; split <;> constructor <;> grind
    refine ⟨by rw [List.foldl_cons]; grind,fun x hx=>?_⟩
    rw [List.foldl_cons]
    rcases List.mem_cons.mp hx with e | e
    · subst e; grind
    · exact h2 x e
end Sw
namespace Sw
open L2
end Sw
namespace Sw
open L2
end Sw
namespace L2
open PySem PySem.Spec PyProof.Rows
section
variable {X:Cx}
end
abbrev D2:=Int×Int
def d2 (g:D2):List V:=[.int g.1,.int g.2]
theorem Row.item {H:Hp} {l:Addr} {ps:List Addr} {qs:List Q4} (R:Row H l ps qs) {i:Int} (h0:0≤i) (h1:i<qs.length):∃ p q,atI (ps.map V.ref) i=some (.ref p)∧qs[i.toNat]? = some q∧H p=some (.tup (q4 q)):=by
  have len:=R.r.len
  have hp:ps[i.toNat]? = some (ps[i.toNat]'(by omega)):=List.getElem?_eq_getElem _
  obtain ⟨q,h2,h3⟩:=R.r.get hp
  have:=atI_nat (xs:=ps.map V.ref) (j:=i.toNat) (v:=V.ref (ps[i.toNat]'(by omega))) (by rw [List.getElem?_map,hp]; rfl)
  rw [Int.toNat_of_nonneg h0] at this
  exact ⟨_,q,this,h2,h3⟩
end L2
namespace Sw
open L2
end Sw
namespace L2
open PySem PySem.Spec PyProof.Rows
theorem comp_range {lo:Int} {n:Nat} {g:TG} {tc:TT} {te:TE} {D:Addr} {τ:St} {H:Hp} {Q:VK} (Pv:Nat→St→Hp→Prop) (h0:Pv 0 τ H)
    (hs:∀ i τ H,i<n→Pv i τ H→g (.int (lo+i)) τ H fun τ2 H3=>tc τ2 H3 fun b H4=>if b=true then te τ2 H4 fun y H5=>∃ ys,H5 D=some (.lst ys)∧ys.length<sizeLine∧Pv (i+1) τ2 (upd H5 D (.lst (ys++[y]))) else Pv (i+1) τ2 H4)
    (hd:∀ τ H,Pv n τ H→Q (.ref D) H):CompG (Itr lo n) g tc te D τ H Q:=by
  refine ⟨fun i m τ H=>m=n-i∧i≤n∧Pv i τ H,⟨n,by simp,Nat.zero_le _,h0⟩,?_⟩
  rintro i m τ H ⟨rfl,hi,p⟩
  by_cases hlt:i<n
  · refine .inr ⟨hlt,Pv (i+1),fun τ' H' p'=>⟨n-(i+1),by omega,rfl,hlt,p'⟩,fun x H' y=>?_⟩
    obtain ⟨e,y⟩:=y
    subst e y
    exact hs i τ _ hlt p
  · have e:i=n:=by omega
    subst e
    exact .inl ⟨Nat.le_refl _,hd τ H p⟩
end L2
namespace L2
open PySem PySem.Spec PyProof.Rows
section
variable {X:Cx}
theorem ps_setC {i0:Nat} {y:Str} {py spos:Pos} {elt target iter:Expr} {ifs:List Expr} {scope:Scope} {pos:Pos} {cl:List (Str×Addr)} {ts:List Str} {fr:List (Str×Nat)} {wi:TI} {g:TG} {tc:TT} {te:TE} (hcalm:X.calm=true)
    (hclos:closureFor scope X.env=pure cl) (hcell:∀ y∈scope.names,y.2≠.cell) (hkind:scope.kind = .function) (hnames:∀ y∈scope.names,y.2 = .local→scope.names.lookup y.1=some .local)
    (hcl:∀ x c,cl.lookup x=some c→X.env.cells.lookup x=some c)
    (hhas:∀ x,((relabel scope X.env).names.lookup x=some .cell∨(relabel scope X.env).names.lookup x=some .free)→∃ c,cl.lookup x=some c) (hfr:FrOk X (relabel scope X.env) fr)
    (hi:PI X target iter wi) (hg:∀ fp s H,PG (cxComp X scope cl (ts++fr.map (·.1)) fp s H) target g) (hc:∀ fp s H,PIfs (cxComp X scope cl (ts++fr.map (·.1)) fp s H) ifs tc)
    (he:∀ fp s H,PE (cxComp X scope cl (ts++fr.map (·.1)) fp s H) elt te) (hsw:swapsWith (.ListComp elt [⟨target,iter,ifs,0⟩] scope pos) (some (.Name y py)) spos.line X.env=pure true) (hN:X.N.Nodup) (hiy:X.N[i0]? = some y) (hy:Loc X.env.scope y)
    (hs:∀ x,foldedSetIterable iter X.env x=pure x:=by intro _; rfl) (hf:X.fn y=true∨X.env.scope.names.lookup y=some .local:=by first | exact .inl rfl | exact .inr rfl | assumption) :
    PS X (.Assign [.Name y py] (.ListComp elt [⟨target,iter,ifs,0⟩] scope pos) spos) (tAsg (tComp ts.length fr wi g tc te) (gName i0)):=by
  intro pins s σ H D I h
  have h:tComp ts.length fr wi g tc te σ H (fun x H1=>D.nx (σ.set i0 (some x)) H1):=h
  rw [exec_Assign_Name_used _ _ _ _ hsw]
  refine wpAny_bind (wpAny_standAt (wpAny_bind ?_))
  show wpAny _ _ (do let _ ← comprehension (.ListComp elt [⟨target,iter,ifs,0⟩] scope pos) scope X.env _ (newList []) false (eval iter X.env) (some (assign (.Name y py) X.env))) _ _ s
  refine wpAny_bind (wpAny_mono (wpAny_comprehension_free (use:=some (assign (.Name y py) X.env)) (Q:=fun _ s'=>SP X pins D .next s') rfl hs hclos hkind hnames (thn (hi pins s σ H _ I h) fun xv s1 h1=>thn h1 fun itv s2 h2=>?_)) (fun _ s' hq=>wpAny_pure (wpAny_pure hq)) fun _ _ e=>e)
  obtain ⟨it,fp,tn,J,H2,rfl,I2,T,st2,f2,hR⟩:=h2
  have D0:H2 s2.heap.objs.size=none:=I2.hok.fresh (Nat.le_refl _)
  obtain ⟨W,⟨m0,w0⟩,turn⟩:=hR s2.heap.objs.size D0
  refine wpAny_newObj_type (wpAny_newFunctionEnv hcell (by intro y hy; simp at hy) (fun h₁ hns₁ hsb₁=>?_) hkind)
  dsimp only at hns₁ hsb₁ ⊢
  have I3:Inv X pins σ (upd H2 s2.heap.objs.size (.lst [])) { s2 with heap:=s2.heap.push { cls:=.type "list", dict:=none,data:=.seq ([]:List Value).toArray } } :=
    I2.laid (t':=s2.toks) (fun _ _ q=>Heap.get?_push_of_some _ q) (Nat.le_refl _) ⟨Nat.zero_le _,[],0,.nil,Heap.get?_push_size _ rfl⟩
  have kp3:∀ b o,s2.heap.get? b=some o→(s2.heap.push { cls:=.type "list", dict:=none,data:=.seq ([]:List Value).toArray }).get? b=some o:=fun b o q=>Heap.get?_push_of_some _ q
  have sz3:(s2.heap.push { cls:=.type "list", dict:=none,data:=.seq ([]:List Value).toArray }).objs.size=s2.heap.objs.size+1:=Heap.size_push ..
  generalize s2.heap.push { cls:=.type "list", dict:=none,data:=.seq ([]:List Value).toArray } = hp3 at hns₁ hsb₁ I3 kp3 sz3 ⊢
  have kp:∀ b o,hp3.get? b=some o→h₁.get? b=some o:=fun b o e=>hsb₁.extBut b o (Nat.ne_of_lt (Heap.lt_size e)) (Heap.get?_push_of_some _ e)
  have flt:∀ b∈fp,b<s2.heap.objs.size:=fun b hb=>by
    obtain ⟨o,e,_⟩:=T.obj _ _ st2 b hb
    exact Heap.lt_size e
  have fr3:∀ b∈fp,(upd H2 s2.heap.objs.size (.lst [])) b=none:=fun b hb=>by rw [upd_ne (Nat.ne_of_lt (flt b hb))]; exact (f2 b hb).1
  have f3:∀ b∈fp,FpOk X pins (upd H2 s2.heap.objs.size (.lst [])) b∧b<hp3.objs.size:=fun b hb=>⟨⟨fr3 b hb,(f2 b hb).2⟩,by rw [sz3]; exact Nat.lt_succ_of_lt (flt b hb)⟩
  have I4:=cx_start (ts:=ts) (t':=s2.toks+([]:List (Str×Value)).length) I3 hkind hcl hhas hfr f3 hns₁ kp
  have st4:tn 0 h₁:=T.keep _ _ _ st2 fun b hb o e=>kp b o (kp3 b o e)
  have loop:codeAny (model X.prog X.w) X.A (.compLoop (.ListComp elt [⟨target,iter,ifs,0⟩] scope pos) 0 (.ref it) (.ref s2.heap.objs.size) (compEnvC scope cl hp3.objs.size X.env))
      (compPost (model X.prog X.w) X.A X.xe (some (assign (.Name y py) X.env)) (fun _ s'=>SP X pins D .next s') (.ref s2.heap.objs.size) hp3.objs.size) { s2 with heap:=h₁,toks:=s2.toks+([]:List (Str×Value)).length }:=by
    refine codeAny_compLoop_go (fun n s'=>∃ i τ H',Inv (cxComp X scope cl (ts++fr.map (·.1)) fp { s2 with heap:=hp3 } (upd H2 s2.heap.objs.size (.lst []))) [] τ H' s'∧tn i s'.heap∧(∀ b∈fp,H' b=none)∧W i n τ H') ?_ m0 ⟨0,_,_,I4,st4,fr3,w0⟩
    rintro n s5 ⟨i,τ,H5,I5,st5,fr5,w5⟩
    have stat:∀ {H':Hp},(∀ b∈fp,H' b=none)→∀ b∈fp,FpOk (cxComp X scope cl (ts++fr.map (·.1)) fp { s2 with heap:=hp3 } (upd H2 s2.heap.objs.size (.lst []))) [] H' b :=
      fun hn b hb=>⟨hn b hb,(I5.ok.exf b hb).1,I5.ok.exfs b hb,.inl hb,(I5.ok.exf b hb).2,fun p hp=>absurd (show p∈([]:List (Addr×Obj)) from hp) (by simp)⟩
    rcases turn i n τ H5 w5 with ⟨stop,qn⟩ | ⟨go,Nn,hN,step⟩
    · refine thn (T.done (cxComp X scope cl (ts++fr.map (·.1)) fp { s2 with heap:=hp3 } (upd H2 s2.heap.objs.size (.lst []))) rfl rfl rfl hcalm i [] s5 τ H5 _ I5 (stat fr5) st5 stop) fun r s6 ⟨hr,I6⟩=>?_
      subst hr
      have neC:∀ b o,hp3.get? b=some o→b≠hp3.objs.size:=fun b o e=>Nat.ne_of_lt (Heap.lt_size e)
      have I7:Inv X pins σ H5 s6:=by
        refine I3.call' (s':=s6) (ch:=fp) I6.os ⟨fun b o e n hb hx=>I6.base.keep b o e n hb hx,fun b o e n hb hx=>I6.base.slot b o e n hb hx,I6.base.free,fun b o e hx=>I6.base.there b o e hx,I6.base.tups,I6.base.frzs,I6.base.tbls⟩ I6.hok I6.bare (fun b hb=>?_)
        exact ⟨(f2 b hb).2.2.2.1,(f2 b hb).2.1,(f2 b hb).2.2.2.2.1,(f2 b hb).2.2.2.2.2⟩
      have lC:X.env.locals≠hp3.objs.size:=by
        obtain ⟨_,⟨o,_,_,ho,_⟩,_⟩:=I3.loc
        exact neC _ o ho
      have cC:∀ x c,X.env.cells.lookup x=some c→c≠hp3.objs.size:=fun x c e=>by
        obtain ⟨v,o,ho,_⟩:=I3.cell x c e
        exact neC _ o ho
      have fC:H5 hp3.objs.size=none:=I6.free
      obtain ⟨m,hn,_⟩:=I6.loc
      show wpAny _ _ (assign (.Name y py) X.env (.ref s2.heap.objs.size)) _ _ _
      refine wpAny_assign_Name (store_ok2 I7 hN hiy hy (v:=.ref s2.heap.objs.size) rfl (fun s8 I8 hsb=>?_) hf)
      obtain ⟨al,hs8,hal⟩:=hsb
      have alC:hp3.objs.size≠al:=by
        rcases hal with z | z
        · rw [z]; exact Ne.symm lC
        · exact Ne.symm (cC _ _ z)
      have hs8:Heap.SameBut al s6.heap s8.heap:=hs8
      have hnC:s6.heap.Ns hp3.objs.size m:=hn
      refine ⟨m,hnC.sameBut hs8 alC,fun h' hs'=>⟨σ.set i0 (some (.ref s2.heap.objs.size)),H5,?_,qn⟩⟩
      have hs':Heap.SameBut hp3.objs.size s8.heap h':=hs'
      refine I8.call' (s':={ s8 with heap:=h' }) (ch:=[hp3.objs.size]) rfl ⟨fun b o e n hb hx=>?_,fun b o e n hb hx=>?_,fun b o e n hx=>n,fun b o e hx=>?_,fun _ _ q=>q,fun _ _ _ q=>q,fun b ps q=>⟨#[],by rw [q]; simp⟩⟩ (fun b ob e=>?_) I8.bare (fun b hb=>?_)
      · exact (hs'.2 b (fun z=>hx (by simp [z]))).trans e
      · exact ⟨o.slots,(hs'.2 b (fun z=>hx (by simp [z]))).trans e⟩
      · exact ⟨o,(hs'.2 b (fun z=>hx (by simp [z]))).trans e⟩
      · refine (I8.hok b ob e).stay (fun c v hc q=>(hs'.2 c ?_).trans q) (fun _ q=>q) fun _ _ q=>q
        intro z
        rcases hc with w | w
        · rw [← w,z,fC] at e; cases e
        · rw [z,fC] at w; cases w
      · have z:b=hp3.objs.size:=by simpa using hb
        subst z
        refine ⟨.inr (Nat.le_trans (Nat.le_trans I2.sz (by rw [sz3]; exact Nat.le_succ _)) (Nat.le_refl _)),Ne.symm lC,cC,fun p hp e=>?_⟩
        obtain ⟨q1,_⟩:=I3.pin p hp
        exact neC _ _ q1 e
    · refine thn (T.item (cxComp X scope cl (ts++fr.map (·.1)) fp { s2 with heap:=hp3 } (upd H2 s2.heap.objs.size (.lst []))) rfl rfl rfl hcalm i [] s5 τ H5 _ I5 (stat fr5) st5 go) fun r s6 ⟨u,hr,h6⟩=>?_
      subst hr
      refine thn h6 fun _ s7 ⟨x,H7,I7,r7,y7,st7,fr7⟩=>?_
      have I7':=I7.pinned (stat fr7) (T.obj _ _ st7)
      refine wpAny_mono (hg fp _ _ _ s7 τ H7 x u _ I7' r7 (step x H7 y7)) (fun _ s8 ⟨τ8,H8,I8,q8⟩=>?_) fun _ _ z=>False.elim z
      have again:∀ {τ9:St} {H9:Hp} {s9:Shared},Inv (cxComp X scope cl (ts++fr.map (·.1)) fp { s2 with heap:=hp3 } (upd H2 s2.heap.objs.size (.lst []))) ([]++pinsAt fp s7.heap) τ9 H9 s9→Nn τ9 H9 →
          ∃ m,m<n∧∃ i τ H',Inv (cxComp X scope cl (ts++fr.map (·.1)) fp { s2 with heap:=hp3 } (upd H2 s2.heap.objs.size (.lst []))) [] τ H' s9∧tn i s9.heap∧(∀ b∈fp,H' b=none)∧W i m τ H':=fun {τ9 H9 s9} I9 n9=>by
        obtain ⟨m',hm,w9⟩:=hN τ9 H9 n9
        refine ⟨m',hm,i+1,τ9,H9,I9.unpinned,T.keep _ _ _ st7 fun b hb o e=>(I9.pin (b,o) (List.mem_append_right _ (List.mem_append_right _ (mem_pinsAt hb e)))).1,fun b hb=>?_,w9⟩
        obtain ⟨o,e,d⟩:=T.obj _ _ st7 b hb
        exact (I9.pin (b,o) (List.mem_append_right _ (List.mem_append_right _ (mem_pinsAt hb e)))).2.1
      refine wpAny_mono (hc fp _ _ _ s8 τ8 H8 _ I8 q8) (fun ok s9 ⟨H9,I9,q9⟩=>?_) fun _ _ z=>False.elim z
      cases ok with
      | false=>exact again I9 q9
      | true =>
        refine wpAny_mono (he fp _ _ _ s9 τ8 H9 _ I9 q9) (fun y s10 ⟨v,H10,I10,rv,ys,hD,hl,qN⟩=>?_) fun _ _ z=>False.elim z
        refine wpAny_mono (mt_append (X:=cxComp X scope cl (ts++fr.map (·.1)) fp { s2 with heap:=hp3 } (upd H2 s2.heap.objs.size (.lst []))) _ s10 τ8 H10 (.ref s2.heap.objs.size) [v] (.ref s2.heap.objs.size) [y] (fun _ H=>Nn τ8 H) I10 rfl (.cons rv .nil) ⟨_,ys,v,rfl,rfl,hD,hl,qN⟩) (fun _ s11 ⟨_,H11,I11,_,q11⟩=>again I11 q11) fun _ _ z=>False.elim z
  exact codeAny_compStart_list loop (T.self X.A 0 _ _ _ st4 loop)
theorem ps_setL {i0:Nat} {y:Str} {py spos:Pos} {elt target iter:Expr} {ifs:List Expr} {scope:Scope} {pos:Pos} {cl:List (Str×Addr)} (ts:List Str) (fr:List (Str×Nat)) {wi:TI} {g:TG} {tc:TT} {te:TE} (hcalm:X.calm=true)
    (hclos:closureFor scope X.env=pure cl) (hcell:∀ y∈scope.names,y.2≠.cell) (hkind:scope.kind = .function) (hnames:∀ y∈scope.names,y.2 = .local→scope.names.lookup y.1=some .local)
    (hcl:ClOk X.env cl) (hhas:clAll (relabel scope X.env).names cl=true) (hfr:FrOk X (relabel scope X.env) fr)
    (hi:PI X target iter wi) (hg:∀ fp s H,PG (cxComp X scope cl (ts++fr.map (·.1)) fp s H) target g) (hc:∀ fp s H,PIfs (cxComp X scope cl (ts++fr.map (·.1)) fp s H) ifs tc)
    (he:∀ fp s H,PE (cxComp X scope cl (ts++fr.map (·.1)) fp s H) elt te)
    (hsw:swapsWith (.ListComp elt [⟨target,iter,ifs,0⟩] scope pos) (some (.Name y py)) spos.line X.env=pure true) (hN:X.N.Nodup) (hiy:X.N[i0]? = some y) (hy:Loc X.env.scope y)
    (hs:∀ x,foldedSetIterable iter X.env x=pure x:=by intro _; rfl) (hf:X.fn y=true∨X.env.scope.names.lookup y=some .local:=by first | exact .inl rfl | exact .inr rfl | assumption) :
    PS X (.Assign [.Name y py] (.ListComp elt [⟨target,iter,ifs,0⟩] scope pos) spos) (tAsg (tComp ts.length fr wi g tc te) (gName i0)) :=
  ps_setC hcalm hclos hcell hkind hnames hcl.get (fun x q=>clAll_get hhas x q) hfr hi hg hc he hsw hN hiy hy hs hf
end
end L2
namespace L2
open PySem PySem.Spec PyProof.Rows
section
variable {X:Cx}
end
end L2
namespace L2
open PySem PySem.Spec PyProof.Rows
section
variable {X:Cx} {pins:List (Addr×Obj)} {σ:St} {H:Hp} {s:Shared} {a:Addr} {kvs:List (Key×V)} {o:Obj}
end
section
variable {X:Cx} {tg:Expr}
end
end L2
namespace L2
open PySem PySem.Spec PyProof.Rows
section
variable {P:Program} {w:World} {K:PySem.W.Frag} {mg:Str→Option Value} {base:Heap} {CX:CXT} {C:Addr} {m qual:Str} {st:Stmt} {N ps:List Str} {k:Nat} {sp:Sp}
end
section
variable {X:Cx} {CX:CXT} {k:Nat} {C:Addr} {ps:List Str} {sp:Sp} {Ek:XH} {x m:Str} {p pos apos:Pos} {e:Expr} {es:List Expr} {t:TA}
end
end L2
namespace L2
open PySem PySem.Spec PyProof.Rows
section
variable {X:Cx}
theorem op_notInK (K:PySem.W.Frag) (h:X.K=K):OpR X (compareOp .NotIn) (rIn K true):=h ▸ op_notIn_seq
end
abbrev Nm:=List (Str×Int)
end L2
namespace L2
open PySem PySem.Spec PyProof.Rows
structure FS (fs:List (Str×V)) (most:Int) (pm:Addr) (ch:V) (pr pt pg:Addr):Prop where
  mo:fs.lookup ("most" : Str)=some (.int most)
  me:fs.lookup ("members" : Str)=some (.ref pm)
  ch:fs.lookup ("chosen" : Str)=some ch
  re:fs.lookup ("reached" : Str)=some (.ref pr)
  ta:fs.lookup ("tags" : Str)=some (.ref pt)
  gr:fs.lookup ("greatest_steps" : Str)=some (.ref pg)
  no:∀ m:Str,¬ m = "most" → ¬ m = "members" → ¬ m = "chosen" → ¬ m = "reached" → ¬ m = "tags" → ¬ m = "greatest_steps" → fs.lookup m=none
  len:fs.length<900
structure At5 where
  p:Addr
  pm:Addr
  ps:Addr
  pt:Addr
  pg:Addr
section
variable {C Cm:Addr} {H:Hp} {a:At5} {most:Int} {nm nm':Nm} {tg gs tg' gs':Str→Option Rat} {ck:Rat} {ch:V} {N N':Nat} {k:List (Key×V)}
end
end L2
namespace L2
open PySem PySem.Spec PyProof.Rows
end L2
namespace L2
open PySem PySem.Spec PyProof.Rows
structure Hd where
  C:Addr
  i:Option Nat
  th:TS
section
variable {P:Program} {w:World} {X:Cx} {C':Addr} {x:Str} {np hpos pos:Pos} {body suite:List Stmt} {b0:Stmt} {tb:XH→TS} {th:TS} {h0:ExceptHandler} {hds:List ExceptHandler} {hs:List Hd}
end
end L2
namespace Sw
abbrev F4:=Int×T3
def hdB (mo ma:Rat) (f:F4):Bool:=!decide (mo<(f.1:Rat)) && isHd ma f.2
def hdP (fs:List F4) (mo ma:Rat):List Nat:=(List.range fs.length).filter fun i=>match fs[i]? with | some f=>hdB mo ma f | none=>false
def shr (fs:List F4) (i:Nat):Int:=((fs[i]?).map fun f=>f.2.2.2).getD 0
def enP (fs:List F4) (i:Nat):Rat:=((fs[i]?).map fun f=>f.2.2.1).getD 0
def shP (fs:List F4) (ps:List Nat):Int:=(ps.map (shr fs)).sum
def chs (fs:List F4) (mo:Rat):List Rat:=fs.filterMap fun f=>if mo<(f.1:Rat) then some (f.1:Rat) else none
def fst1 (fs:List F4) (mo ma:Rat):Rat:=mo+(minL ((hdP fs mo ma).map (enP fs))-ma)*(shP fs (hdP fs mo ma):Rat)
def chA (fs:List F4) (mo ma:Rat):List Rat:=chs fs mo++(if hdP fs mo ma = [] then [] else [fst1 fs mo ma])
abbrev Sch:=Rat×Rat×List (Nat×Rat)
def prt (fs:List F4) (mo ma:Rat):List (Nat×Rat):=(hdP fs mo ma).map fun i=>(i,(shr fs i:Rat) / (shP fs (hdP fs mo ma):Rat))
def flowF (fs:List F4):Nat→Rat→Rat→List Sch
  | 0,_,_=>[]
  | n+1,mo,ma =>
    if chA fs mo ma = [] then []
    else if hdP fs mo ma = [] then flowF fs n (minL (chA fs mo ma)) ma
    else (mo,minL (chA fs mo ma),prt fs mo ma) :: flowF fs n (minL (chA fs mo ma)) (ma+(minL (chA fs mo ma)-mo) / (shP fs (hdP fs mo ma):Rat))
theorem flowF_succ (fs:List F4) (n:Nat) (mo ma:Rat):flowF fs (n+1) mo ma=if chA fs mo ma = [] then [] else if hdP fs mo ma = [] then flowF fs n (minL (chA fs mo ma)) ma else (mo,minL (chA fs mo ma),prt fs mo ma) :: flowF fs n (minL (chA fs mo ma)) (ma+(minL (chA fs mo ma)-mo) / (shP fs (hdP fs mo ma):Rat)):=rfl
def mu (fs:List F4) (mo ma:Rat):Nat:=(fs.filter fun f=>decide (mo<(f.1:Rat))).length+(fs.filter fun f=>decide (ma<f.2.2.1)).length
theorem mu_le (fs:List F4) (mo ma:Rat):mu fs mo ma≤2*fs.length:=by
  unfold mu
  have h1:=List.length_filter_le (fun f:F4=>decide (mo<(f.1:Rat))) fs
  have h2:=List.length_filter_le (fun f:F4=>decide (ma<f.2.2.1)) fs
  omega
theorem hdP_mem {fs:List F4} {mo ma:Rat} {i:Nat}:i∈hdP fs mo ma↔∃ f,fs[i]? = some f∧hdB mo ma f=true:=by
  unfold hdP
  rw [List.mem_filter,List.mem_range]
  constructor
  · rintro ⟨h1,h2⟩
    cases e:fs[i]? with
    | none=>rw [e] at h2; cases h2
    | some f=>rw [e] at h2; exact ⟨f,rfl,h2⟩
  · rintro ⟨f,e,h⟩
    exact ⟨(List.getElem?_eq_some_iff.mp e).1,by rw [e]; exact h⟩
theorem hdB_iff {mo ma:Rat} {f:F4}:hdB mo ma f=true↔((f.1:Rat)≤mo∧f.2.1≤ma∧ma<f.2.2.1):=by
  unfold hdB isHd
  simp only [Bool.and_eq_true,Bool.not_eq_true',decide_eq_false_iff_not,decide_eq_true_eq]
  constructor
  · rintro ⟨a,b,c⟩; exact ⟨by grind,by grind,c⟩
  · rintro ⟨a,b,c⟩; exact ⟨by grind,by grind,c⟩
theorem sum_pos:∀ {l:List Int},(∀ x∈l,1≤x)→l≠[]→1≤l.sum
  | [],_,h=>absurd rfl h
  | [x],h,_=>by simpa using h x (by simp)
  | x :: y :: r,h,_=>by
    have a:=h x (by simp)
    have b:=sum_pos (l:=y :: r) (fun z hz=>h z (List.mem_cons_of_mem _ hz)) (by simp)
    rw [List.sum_cons]
    omega
theorem sum_le {M:Int}:∀ {l:List Int},(∀ x∈l,x≤M)→l.sum≤l.length*M
  | [],_=>by simp
  | x :: r,h=>by
    have a:=h x (by simp)
    have b:=sum_le (l:=r) fun z hz=>h z (List.mem_cons_of_mem _ hz)
    rw [List.sum_cons,List.length_cons]
    have:((r.length+1:Nat):Int)*M=r.length*M+M:=by rw [Int.natCast_add,Int.add_mul]; simp
    omega
theorem shr_at {fs:List F4} {i:Nat} {f:F4} (h:fs[i]? = some f):shr fs i=f.2.2.2:=by unfold shr; rw [h]; rfl
theorem enP_at {fs:List F4} {i:Nat} {f:F4} (h:fs[i]? = some f):enP fs i=f.2.2.1:=by unfold enP; rw [h]; rfl
theorem shP_pos {fs:List F4} {mo ma:Rat} (s1:∀ f∈fs,1≤f.2.2.2) (h:hdP fs mo ma≠[]):1≤shP fs (hdP fs mo ma):=by
  refine sum_pos (fun x hx=>?_) (by simpa using h)
  obtain ⟨i,hi,rfl⟩:=List.mem_map.mp hx
  obtain ⟨f,e,_⟩:=hdP_mem.mp hi
  rw [shr_at e]
  exact s1 f (List.mem_of_getElem? e)
theorem hdP_len (fs:List F4) (mo ma:Rat):(hdP fs mo ma).length≤fs.length:=by
  have:=List.length_filter_le (fun i=>match fs[i]? with | some f=>hdB mo ma f | none=>false) (List.range fs.length)
  rw [List.length_range] at this
  exact this
theorem shP_le {fs:List F4} {mo ma:Rat} {M:Int} (M0:0≤M) (s2:∀ f∈fs,f.2.2.2≤M):shP fs (hdP fs mo ma)≤fs.length*M:=by
  have h:=sum_le (M:=M) (l:=(hdP fs mo ma).map (shr fs)) fun x hx=>by
    obtain ⟨i,hi,rfl⟩:=List.mem_map.mp hx
    obtain ⟨f,e,_⟩:=hdP_mem.mp hi
    rw [shr_at e]
    exact s2 f (List.mem_of_getElem? e)
  rw [List.length_map] at h
  have l:=hdP_len fs mo ma
  have:((hdP fs mo ma).length:Int)*M≤fs.length*M:=Int.mul_le_mul_of_nonneg_right (by omega) M0
  unfold shP
  omega
def lstE (fs:List F4) (mo ma:Rat):Rat:=minL ((hdP fs mo ma).map (enP fs))
theorem lstE_mem {fs:List F4} {mo ma:Rat} (h:hdP fs mo ma≠[]):∃ f∈fs,hdB mo ma f=true∧lstE fs mo ma=f.2.2.1:=by
  have:=minL_mem (l:=(hdP fs mo ma).map (enP fs)) (by simpa using h)
  obtain ⟨i,hi,e⟩:=List.mem_map.mp this
  obtain ⟨f,e1,e2⟩:=hdP_mem.mp hi
  exact ⟨f,List.mem_of_getElem? e1,e2,by unfold lstE; rw [← e,enP_at e1]⟩
theorem chs_mem {fs:List F4} {mo x:Rat}:x∈chs fs mo↔∃ f∈fs,mo<(f.1:Rat)∧x=(f.1:Rat):=by
  unfold chs
  rw [List.mem_filterMap]
  constructor
  · rintro ⟨f,hf,e⟩
    split at e
    · rename_i h; exact ⟨f,hf,h,(Option.some.inj e).symm⟩
    · cases e
  · rintro ⟨f,hf,h,rfl⟩
    exact ⟨f,hf,by rw [if_pos h]⟩
theorem minL_le {l:List Rat} {x:Rat} (h:x∈l):minL l≤x:=by
  cases l with
  | nil=>cases h
  | cons q r=>exact (foldl_min_le (q :: r) q).2 x h
structure Turn1 (fs:List F4) (mo ma af ma':Rat):Prop where
  gt:mo<af
  ge:ma≤ma'
  way:(∃ f∈fs,mo<(f.1:Rat)∧af=(f.1:Rat))∨(hdP fs mo ma≠[]∧af=fst1 fs mo ma∧ma'=lstE fs mo ma∧∃ f∈fs,ma<f.2.2.1∧ma'=f.2.2.1)
  le:hdP fs mo ma≠[]→ma'≤lstE fs mo ma
theorem turn_mu {fs:List F4} {mo ma af ma':Rat} (t:Turn1 fs mo ma af ma'):mu fs af ma' < mu fs mo ma:=by
  have gt:=t.gt
  have ge:=t.ge
  have le1:∀ f:F4,decide (af<(f.1:Rat))=true→decide (mo<(f.1:Rat))=true:=fun f h=>by
    simp only [decide_eq_true_eq] at h ⊢; grind
  have le2:∀ f:F4,decide (ma' < f.2.2.1)=true→decide (ma<f.2.2.1)=true:=fun f h=>by
    simp only [decide_eq_true_eq] at h ⊢; grind
  have mono:∀ {p q:F4→Bool} {l:List F4},(∀ f,q f=true→p f=true)→(l.filter q).length≤(l.filter p).length:=fun {p q l} h=>by
    induction l with
    | nil=>exact Nat.le_refl _
    | cons z r ih =>
      have hz:=h z
      rw [List.filter_cons,List.filter_cons]
      cases e1:q z <;> cases e2:p z <;> simp_all <;> omega
  unfold mu
  rcases t.way with ⟨f,hf,h1,h2⟩ | ⟨_,_,_,f,hf,h1,h2⟩
  · have a:=filter_len_lt (l:=fs) (p:=fun f=>decide (mo<(f.1:Rat))) (q:=fun f=>decide (af<(f.1:Rat))) (fun x _ h=>le1 x h) ⟨f,hf,decide_eq_true h1,by rw [h2]; simp only [decide_eq_false_iff_not]; grind⟩
    have b:=mono (l:=fs) (p:=fun f=>decide (ma<f.2.2.1)) (q:=fun f=>decide (ma' < f.2.2.1)) le2
    omega
  · have a:=mono (l:=fs) (p:=fun f=>decide (mo<(f.1:Rat))) (q:=fun f=>decide (af<(f.1:Rat))) le1
    have b:=filter_len_lt (l:=fs) (p:=fun f=>decide (ma<f.2.2.1)) (q:=fun f=>decide (ma' < f.2.2.1)) (fun x _ h=>le2 x h) ⟨f,hf,decide_eq_true h1,by rw [h2]; simp only [decide_eq_false_iff_not]; grind⟩
    omega
theorem turn_rest {fs:List F4} {mo ma:Rat} (h:hdP fs mo ma = []) (hc:chA fs mo ma≠[]):Turn1 fs mo ma (minL (chA fs mo ma)) ma:=by
  have m:=minL_mem hc
  have e:chA fs mo ma=chs fs mo:=by unfold chA; rw [if_pos h,List.append_nil]
  rw [e] at m ⊢
  obtain ⟨f,hf,h1,h2⟩:=chs_mem.mp m
  exact ⟨by rw [h2]; exact h1,Rat.le_refl,.inl ⟨f,hf,h1,h2⟩,fun z=>absurd h z⟩
theorem chA_ne {fs:List F4} {mo ma:Rat} (h:hdP fs mo ma≠[]):chA fs mo ma≠[]:=by
  unfold chA
  rw [if_neg h]
  simp
theorem turn_go {fs:List F4} {mo ma:Rat} (s1:∀ f∈fs,1≤f.2.2.2) (h:hdP fs mo ma≠[]) :
    Turn1 fs mo ma (minL (chA fs mo ma)) (ma+(minL (chA fs mo ma)-mo) / (shP fs (hdP fs mo ma):Rat)):=by
  have m:=minL_mem (chA_ne h)
  have le:minL (chA fs mo ma)≤fst1 fs mo ma:=minL_le (by unfold chA; rw [if_neg h]; simp)
  have e:∀ x,x∈chA fs mo ma→x∈chs fs mo∨x=fst1 fs mo ma:=fun x hx=>by
    unfold chA at hx
    rw [if_neg h] at hx
    rcases List.mem_append.mp hx with z | z
    · exact .inl z
    · exact .inr (by simpa using z)
  have sp:=shP_pos s1 h
  obtain ⟨f,hf,hb,he⟩:=lstE_mem h
  obtain ⟨_,_,hm⟩:=hdB_iff.mp hb
  rw [← he] at hm
  have S0:(0:Rat)<(shP fs (hdP fs mo ma):Rat):=q_cast_pos (by omega)
  have ef:fst1 fs mo ma=mo+(lstE fs mo ma-ma)*(shP fs (hdP fs mo ma):Rat):=rfl
  have fgt:mo<fst1 fs mo ma:=by
    rw [ef]
    have:=Rat.mul_pos (show (0:Rat)<lstE fs mo ma-ma by grind) S0
    grind
  generalize (shP fs (hdP fs mo ma):Rat)=S at S0 ef ⊢
  have gt:mo<minL (chA fs mo ma):=by
    rcases e _ m with z | z
    · obtain ⟨g,_,h1,h2⟩:=chs_mem.mp z
      rw [h2]; exact h1
    · rw [z]; exact fgt
  have dge:∀ x:Rat,0≤x→0≤x / S:=fun x hx=>by
    have:¬ x / S<0:=by rw [Rat.div_lt_iff S0,Rat.zero_mul]; grind
    grind
  have dle:∀ x:Rat,x≤(lstE fs mo ma-ma)*S→x / S≤lstE fs mo ma-ma:=fun x hx=>by
    have:¬ lstE fs mo ma-ma<x / S:=by rw [Rat.lt_div_iff S0]; grind
    grind
  generalize minL (chA fs mo ma)=af at m le gt ⊢
  have g1:=dge (af-mo) (by grind)
  have g2:=dle (af-mo) (by grind)
  refine ⟨gt,by grind,?_,fun _=>by grind⟩
  rcases e _ m with z | z
  · exact .inl (by obtain ⟨g,hg,h1,h2⟩:=chs_mem.mp z; exact ⟨g,hg,h1,h2⟩)
  · have e1:ma+(af-mo) / S=lstE fs mo ma:=by
      rw [z,ef]
      have:S≠0:=by grind
      grind
    exact .inr ⟨h,z,e1,f,hf,by grind,by rw [e1]; exact he⟩
end Sw
namespace Sw
open L2
theorem sumS_M {M:Int}:∀ {hs:List T3},(∀ u∈hs,u.2.2≤M)→sumS hs≤hs.length*M:=fun {hs} h=>by
  have:=sum_le (M:=M) (l:=hs.map fun u=>u.2.2) fun x hx=>by
    obtain ⟨u,hu,rfl⟩:=List.mem_map.mp hx
    exact h u hu
  rw [List.length_map] at this
  exact this
theorem markF_S {us:List T3} {D B M:Int} {t:Int} (gb:GB D B) (ok:∀ u∈us,TagOk D B u) (M0:0≤M) (sM:∀ u∈us,u.2.2≤M):∀ (n:Nat) (mo re:Rat),Grd D mo→Grd D re→∃ S:Int,1≤S∧S≤us.length*M+1∧Grd (D*S) (markF us (t:Rat) n mo re)
  | 0,mo,re,gm,gr=>⟨1,by decide,by have:=Int.mul_nonneg (Int.natCast_nonneg us.length) M0; omega,gr.more (by have:=gb.D0; omega) (by decide)⟩
  | n+1,mo,re,gm,gr=>by
    have D0:D≠0:=by have:=gb.D0; omega
    have z0:=Int.mul_nonneg (Int.natCast_nonneg us.length) M0
    unfold markF
    by_cases hn:hds us re = []
    · rw [if_pos hn]
      exact ⟨1,by decide,by omega,gr.more D0 (by decide)⟩
    · rw [if_neg hn]
      have hok:∀ u∈hds us re,TagOk D B u:=fun u h=>ok u (hds_mem h).1
      have hS:=sumS_ok hok hn
      have hM:=sumS_M (M:=M) (hs:=hds us re) fun u h=>sM u (hds_mem h).1
      have hl:(hds us re).length≤us.length:=List.length_filter_le _ _
      have hl2:((hds us re).length:Int)*M≤us.length*M:=Int.mul_le_mul_of_nonneg_right (by omega) M0
      obtain ⟨uf,huf,ef⟩:=fstE_mem hn
      have gf:Grd D (fstE (hds us re)):=by rw [ef]; exact (hok uf huf).e
      generalize fstE (hds us re)=fv at gf ⊢
      generalize sumS (hds us re)=S at hS hM ⊢
      by_cases hlt:(t:Rat)<mo+(fv-re)*(S:Rat)
      · rw [if_pos hlt]
        exact ⟨S,hS.1,by omega,(gr.more D0 (by omega)).add (((Grd.int D0 t).sub gm).divi D0 (by omega))⟩
      · rw [if_neg hlt]
        exact markF_S (t:=t) gb ok M0 sM n (mo+(fv-re)*(S:Rat)) fv (gm.add ((gf.sub gr).muli S)) gf
structure Ti where
  lat:Int
  re:Rat
  us:List T3
  en:Int→Option Rat
def Ti.nil:Ti:=⟨0,0,[],fun _=>none⟩
def Ti.rv (s:Ti) (q:Q4):Rat:=markAt s.us s.lat s.re q.1
def Ti.beg (s:Ti) (q:Q4):Rat:=begOn s.en (s.rv q) q.2.1
def Ti.fin (s:Ti) (q:Q4):Rat:=s.beg q+(q.2.2.1:Rat) / (q.2.2.2:Rat)
def Ti.come (s:Ti) (q:Q4):Ti:=⟨q.1,s.rv q,usOn s.us (s.rv q) (s.beg q) q.2.2.1 q.2.2.2,setE s.en q.2.1 (s.fin q)⟩
def Ti.after (s:Ti):List Q4→Ti
  | []=>s
  | q :: r=>(s.come q).after r
def Ti.tags (s:Ti):List Q4→List (Rat×Rat)
  | []=>[]
  | q :: r=>(s.beg q,s.fin q) :: (s.come q).tags r
theorem Ti.after_snoc:∀ {s:Ti} {l:List Q4} {q:Q4},s.after (l++[q])=(s.after l).come q
  | _,[],_=>rfl
  | s,x :: r,q=>by
    show (s.come x).after (r++[q]) = _
    rw [Ti.after_snoc]; rfl
theorem Ti.tags_snoc:∀ {s:Ti} {l:List Q4} {q:Q4},s.tags (l++[q])=s.tags l++[((s.after l).beg q,(s.after l).fin q)]
  | _,[],_=>rfl
  | s,x :: r,q=>by
    show _ :: (s.come x).tags (r++[q]) = _
    rw [Ti.tags_snoc]; rfl
theorem Ti.tags_len:∀ {s:Ti} {l:List Q4},(s.tags l).length=l.length
  | _,[]=>rfl
  | s,x :: r=>by
    show ((s.come x).tags r).length+1 = _
    rw [Ti.tags_len]; rfl
structure Fit (n:Nat) (M:Int) (a c:Nat):Prop where
  M1:1≤M
  M2:M≤1000000
  n1:n≤60
  sA:n*M+1<2 ^ a
  sB:∃ b,a+b≤c∧M<2 ^ b
  all:c*n+80≤1500
  al2:c*n+a*n≤2000
theorem fit16:Fit 16 1000000 24 44:=⟨by decide,by decide,by decide,by decide,⟨20,by decide,by decide⟩,by decide,by decide⟩
theorem sz_of {a:Nat} {x:Int} (h0:0≤x) (h:x<2 ^ a):Sz a x:=by
  unfold Sz
  have:((2 ^ a:Nat):Int) = 2 ^ a:=by rw [Int.natCast_pow]; rfl
  omega
structure RunOk (n:Nat) (M:Int) (c:Nat) (s:Ti) (k:Nat) (D:Int):Prop where
  ok:TideOk D (k*1000000) s.lat s.re s.us
  eok:∀ w e,s.en w=some e→Grd D e∧0≤e∧e≤((k*1000000:Int):Rat)
  dz:Sz (c*k+1) D
  sM:∀ u∈s.us,u.2.2≤M
  ln:s.us.length≤k
  kn:k≤n
def PcOk (M:Int) (q:Q4):Prop:=0≤q.1∧q.1<100000000000000∧1≤q.2.2.1∧q.2.2.1≤1000000∧1≤q.2.2.2∧q.2.2.2≤M
theorem RunOk.nil {n:Nat} {M:Int} {c:Nat}:RunOk n M c Ti.nil 0 1 :=
  ⟨⟨⟨by decide,Sw.Sz.one _,by decide,by decide⟩,⟨0,by decide +kernel⟩,by decide,by decide,fun u h=>absurd h List.not_mem_nil,by decide,by decide,by decide⟩,(fun w e h=>by cases h),Sz.one _,fun u h=>absurd h List.not_mem_nil,Nat.le_refl _,Nat.zero_le _⟩
theorem RunOk.come {n:Nat} {M:Int} {a c:Nat} {s:Ti} {k:Nat} {D:Int} {q:Q4} (F:Fit n M a c) (r:RunOk n M c s k D) (hk:k<n) (p:PcOk M q) (hl:s.lat≤q.1) :
    ∃ D' j:Int,j≠0∧D'=D*j∧RunOk n M c (s.come q) (k+1) D'∧Grd D' (s.beg q)∧Grd D' (s.fin q)∧0≤s.beg q∧s.beg q<s.fin q∧s.fin q≤(((k+1:Nat)*1000000:Int):Rat):=by
  obtain ⟨p0,p1,n1,n2,s1,s2⟩:=p
  have o:=r.ok
  have M1:=F.M1
  obtain ⟨S,S1,S2,gS⟩:=markF_S (t:=q.1) o.gb o.tus (by omega) r.sM (s.us.length+1) s.lat s.re (Grd.int (by have:=o.gb.D0; omega) s.lat) o.gre
  obtain ⟨_,m1,m2⟩:=markAt_ok o hl
  have gS:Grd (D*S) (s.rv q):=gS
  have m1:s.re≤s.rv q:=m1
  have m2:s.rv q≤((k*1000000:Int):Rat):=m2
  have D0:=o.gb.D0
  have re0:=o.re0
  have dn:D≠0:=by omega
  have sn:S≠0:=by omega
  have shn:q.2.2.2≠0:=by omega
  have dsn:D*S≠0:=Int.mul_ne_zero dn sn
  have gb1:Grd (D*S) (s.beg q)∧0≤s.beg q∧s.beg q≤((k*1000000:Int):Rat):=by
    unfold Ti.beg begOn
    cases e:s.en q.2.1 with
    | none =>
      show Grd (D*S) (max (s.rv q) (s.rv q))∧0≤max (s.rv q) (s.rv q)∧max (s.rv q) (s.rv q)≤_
      rw [Rat.max_def]
      simp only [ite_self]
      exact ⟨gS,by grind,m2⟩
    | some v =>
      have ev:=r.eok q.2.1 v e
      show Grd (D*S) (max (s.rv q) v)∧0≤max (s.rv q) v∧max (s.rv q) v≤_
      rw [Rat.max_def]
      split
      · exact ⟨ev.1.more dn sn,ev.2.1,ev.2.2⟩
      · exact ⟨gS,by grind,m2⟩
  obtain ⟨gb,b0,bB⟩:=gb1
  have shp:(0:Rat)<(q.2.2.2:Rat):=q_cast_pos (by omega)
  have x0:0<(q.2.2.1:Rat) / (q.2.2.2:Rat):=by
    rw [Rat.lt_div_iff shp,Rat.zero_mul]
    exact q_cast_pos (by omega)
  have x1:(q.2.2.1:Rat) / (q.2.2.2:Rat)≤((1000000:Int):Rat):=by
    have:¬ ((1000000:Int):Rat)<(q.2.2.1:Rat) / (q.2.2.2:Rat):=by
      rw [Rat.lt_div_iff shp,← Rat.intCast_mul,Rat.intCast_lt_intCast]
      omega
    grind
  have eB:(((k+1:Nat)*1000000:Int):Rat)=((k*1000000:Int):Rat)+((1000000:Int):Rat):=by
    have:(((k+1:Nat):Int)*1000000:Int)=(k:Int)*1000000+1000000:=by omega
    rw [this,Rat.intCast_add]
  have mil:(0:Rat)≤((1000000:Int):Rat):=by decide
  have kb:(s.us.length:Int)*M≤n*M:=Int.mul_le_mul_of_nonneg_right (by have:=r.ln; omega) (by omega)
  have zD:Sz (c*(k+1)+1) (D*S*q.2.2.2):=by
    obtain ⟨b,hab,hb⟩:=F.sB
    have hS:Sz a S:=sz_of (by omega) (by have:=F.sA; omega)
    have hsh:Sz b q.2.2.2:=sz_of (by omega) (by omega)
    refine ((r.dz.mul hS).mul hsh).mono ?_
    rw [Nat.mul_add,Nat.mul_one]
    omega
  have z15:c*(k+1)+1≤1500:=by
    have h1:=F.all
    have h2:c*(k+1)≤c*n:=Nat.mul_le_mul_left c hk
    omega
  have ge:Grd (D*S*q.2.2.2) (s.fin q):=(gb.more dsn shn).add ((Grd.int dsn q.2.2.1).divi dsn shn)
  have ef:s.fin q=s.beg q+(q.2.2.1:Rat) / (q.2.2.2:Rat):=rfl
  have n6:=F.n1
  refine ⟨D*S*q.2.2.2,S*q.2.2.2,Int.mul_ne_zero sn shn,Int.mul_assoc D S q.2.2.2,⟨⟨⟨Int.mul_pos (Int.mul_pos D0 (by omega)) (by omega),zD.mono z15,by omega,by omega⟩,gS.more dsn shn,?_,?_,fun u hu=>?_,?_,p0,?_⟩,fun w e he=>?_,zD,fun u hu=>?_,?_,hk⟩,gb.more dsn shn,ge,b0,by rw [ef]; grind,by rw [ef,eB]; grind⟩
  · show 0≤s.rv q
    grind
  · show s.rv q≤_
    rw [eB]; grind
  · have hu:u∈(s.us.filter fun u=>decide (s.rv q<u.2.1))++[(s.beg q,s.beg q+(q.2.2.1:Rat) / (q.2.2.2:Rat),q.2.2.2)]:=hu
    rcases List.mem_append.mp hu with h | h
    · have t:=o.tus u (List.mem_filter.mp h).1
      have te:=t.eB
      exact ⟨(t.b.more dn sn).more dsn shn,(t.e.more dn sn).more dsn shn,t.b0,t.be,by rw [eB]; grind,t.s1,t.s2⟩
    · have:u=(s.beg q,s.beg q+(q.2.2.1:Rat) / (q.2.2.2:Rat),q.2.2.2):=by simpa using h
      subst this
      exact ⟨gb.more dsn shn,ge,b0,by show s.beg q≤s.beg q+(q.2.2.1:Rat) / (q.2.2.2:Rat); grind,by show s.beg q+(q.2.2.1:Rat) / (q.2.2.2:Rat)≤_; rw [eB]; grind,s1,by have:=F.M2; show q.2.2.2≤1000000; omega⟩
  · show (usOn s.us (s.rv q) (s.beg q) q.2.2.1 q.2.2.2).length≤100
    unfold usOn
    have:=List.length_filter_le (fun u:Sw.T3=>decide (s.rv q<u.2.1)) s.us
    have:=r.ln
    rw [List.length_append]
    simp only [List.length_cons,List.length_nil]
    omega
  · show q.1<1000000000000000
    omega
  · have he:setE s.en q.2.1 (s.fin q) w=some e:=he
    unfold setE at he
    split at he
    · cases he
      exact ⟨ge,by rw [ef]; grind,by rw [ef,eB]; grind⟩
    · have ev:=r.eok w e he
      have e2:=ev.2.2
      exact ⟨(ev.1.more dn sn).more dsn shn,ev.2.1,by rw [eB]; grind⟩
  · have hu:u∈(s.us.filter fun u=>decide (s.rv q<u.2.1))++[(s.beg q,s.beg q+(q.2.2.1:Rat) / (q.2.2.2:Rat),q.2.2.2)]:=hu
    rcases List.mem_append.mp hu with h | h
    · exact r.sM u (List.mem_filter.mp h).1
    · have:u=(s.beg q,s.beg q+(q.2.2.1:Rat) / (q.2.2.2:Rat),q.2.2.2):=by simpa using h
      subst this
      exact s2
  · show (usOn s.us (s.rv q) (s.beg q) q.2.2.1 q.2.2.2).length≤k+1
    unfold usOn
    have:=List.length_filter_le (fun u:Sw.T3=>decide (s.rv q<u.2.1)) s.us
    have:=r.ln
    rw [List.length_append]
    simp only [List.length_cons,List.length_nil]
    omega
end Sw
namespace L2
open PySem PySem.Spec PyProof.Rows
def Tg2 (H:Hp) (p:Addr) (t:Rat×Rat):Prop:=∃ pb pe,H p=some (.tup [.ref pb,.ref pe])∧H pb=some (.tup (fq t.1))∧H pe=some (.tup (fq t.2))
theorem Tg2.keep {H H':Hp} {p:Addr} {t:Rat×Rat} (h:Tg2 H p t) (e:∀ p xs,H p=some (.tup xs)→H' p=some (.tup xs)):Tg2 H' p t:=by
  obtain ⟨pb,pe,h1,h2,h3⟩:=h
  exact ⟨pb,pe,e _ _ h1,e _ _ h2,e _ _ h3⟩
structure TgL (H:Hp) (l:Addr) (ps:List Addr) (ts:List (Rat×Rat)):Prop where
  hl:H l=some (.lst (ps.map V.ref))
  r:Paired (Tg2 H) ps ts
theorem TgL.same {H H':Hp} {l:Addr} {ps:List Addr} {ts:List (Rat×Rat)} (h:TgL H l ps ts) (s:Same H H'):TgL H' l ps ts:=⟨s _ _ h.hl,Paired.mapP h.r fun _ _ q=>q.keep fun _ _ e=>s _ _ e⟩
theorem paired_at {α β:Type} {F:α→β→Prop}:∀ {l₁:List α} {l₂:List β} {i:Nat} {b:β},Paired F l₁ l₂→l₂[i]? = some b→∃ a,l₁[i]? = some a∧F a b
  | _,_,_,_,Paired.nil,e=>by simp at e
  | _,_,0,_,Paired.cons x _,e=>by simp at e; subst e; exact ⟨_,rfl,x⟩
  | _,_,i+1,_,Paired.cons _ y,e=>by
    obtain ⟨b,h1,h2⟩:=paired_at (i:=i) y (by simpa using e)
    exact ⟨b,by simpa using h1,h2⟩
theorem TgL.item {H:Hp} {l:Addr} {ps:List Addr} {ts:List (Rat×Rat)} (h:TgL H l ps ts) {i:Nat} {t:Rat×Rat} (e:ts[i]? = some t):∃ p,atI (ps.map V.ref) (i:Int)=some (.ref p)∧Tg2 H p t:=by
  obtain ⟨p,h1,h2⟩:=paired_at h.r e
  exact ⟨p,atI_nat (by rw [List.getElem?_map,h1]; rfl),h2⟩
def PrA (H:Hp) (p:Addr) (x:Nat×Rat):Prop:=∃ pr,H p=some (.tup [.int (x.1:Int),.ref pr])∧H pr=some (.tup (fq x.2))
theorem PrA.keep {H H':Hp} {p:Addr} {x:Nat×Rat} (h:PrA H p x) (e:∀ p xs,H p=some (.tup xs)→H' p=some (.tup xs)):PrA H' p x:=by
  obtain ⟨pr,h1,h2⟩:=h
  exact ⟨pr,e _ _ h1,e _ _ h2⟩
def ScA (H:Hp) (p:Addr) (x:Sw.Sch):Prop:=∃ pf pt pl ps,H p=some (.tup [.ref pf,.ref pt,.ref pl])∧H pf=some (.tup (fq x.1))∧H pt=some (.tup (fq x.2.1))∧H pl=some (.lst (ps.map V.ref))∧Paired (PrA H) ps x.2.2
theorem ScA.keep {H H':Hp} {p l:Addr} {x:Sw.Sch} {xs:List V} (h:ScA H p x) (e:∀ b o,b≠l→H b=some o→H' b=some o) (hl:H l=some (.lst xs)) (nl:∀ pf pt pl,H p=some (.tup [.ref pf,.ref pt,.ref pl])→pl≠l):ScA H' p x:=by
  obtain ⟨pf,pt,pl,ps,h1,h2,h3,h4,h5⟩:=h
  have kt:∀ b zs,H b=some (.tup zs)→H' b=some (.tup zs):=fun b zs q=>e _ _ (ne_of q hl (by intro z; cases z)) q
  exact ⟨pf,pt,pl,ps,kt _ _ h1,kt _ _ h2,kt _ _ h3,e _ _ (nl _ _ _ h1) h4,Paired.mapP h5 fun _ _ q=>q.keep kt⟩
theorem ScA.same {H H':Hp} {p:Addr} {x:Sw.Sch} (h:ScA H p x) (s:Same H H'):ScA H' p x:=by
  obtain ⟨pf,pt,pl,ps,h1,h2,h3,h4,h5⟩:=h
  exact ⟨pf,pt,pl,ps,s _ _ h1,s _ _ h2,s _ _ h3,s _ _ h4,Paired.mapP h5 fun _ _ q=>q.keep fun _ _ e=>s _ _ e⟩
def ScN (H:Hp) (l p:Addr) (x:Sw.Sch):Prop:=ScA H p x∧∀ pf pt pl,H p=some (.tup [.ref pf,.ref pt,.ref pl])→pl≠l
structure ScL (H:Hp) (l:Addr) (ps:List Addr) (xs:List Sw.Sch):Prop where
  hl:H l=some (.lst (ps.map V.ref))
  r:Paired (ScN H l) ps xs
theorem ScL.same {H H':Hp} {l:Addr} {ps:List Addr} {xs:List Sw.Sch} (h:ScL H l ps xs) (s:Same H H'):ScL H' l ps xs:=by
  refine ⟨s _ _ h.hl,Paired.mapP h.r fun p x q=>⟨q.1.same s,fun pf pt pl e=>?_⟩⟩
  obtain ⟨pf',pt',pl',_,h1,_⟩:=q.1
  have e1:=s _ _ h1
  rw [e] at e1
  cases e1
  exact q.2 _ _ _ h1
theorem ScL.app {H:Hp} {l p:Addr} {ps:List Addr} {xs:List Sw.Sch} {x:Sw.Sch} (h:ScL H l ps xs) (hp:ScA H p x) (nl:∀ pf pt pl,H p=some (.tup [.ref pf,.ref pt,.ref pl])→pl≠l):ScL (upd H l (.lst (ps.map V.ref++[.ref p]))) l (ps++[p]) (xs++[x]):=by
  have kp:∀ b o,b≠l→H b=some o→upd H l (.lst (ps.map V.ref++[.ref p])) b=some o:=fun b o n e=>by rw [upd_ne n]; exact e
  have go:∀ a x,ScN H l a x→ScN (upd H l (.lst (ps.map V.ref++[.ref p]))) l a x:=fun a x q=>by
    refine ⟨q.1.keep kp h.hl q.2,fun pf pt pl e=>?_⟩
    obtain ⟨pf',pt',pl',_,h1,_⟩:=q.1
    rw [upd_ne (ne_of h1 h.hl (by intro z; cases z))] at e
    exact q.2 _ _ _ e
  exact ⟨by rw [upd_same,List.map_append]; rfl,paired_snoc (go _ _ ⟨hp,nl⟩) (Paired.mapP h.r go)⟩
def fsOf (qs:List Q4) (ts:List (Rat×Rat)):List Sw.F4:=List.zipWith (fun q t=>(q.1,t.1,t.2,q.2.2.2)) qs ts
theorem fsOf_len {qs:List Q4} {ts:List (Rat×Rat)} (h:ts.length=qs.length):(fsOf qs ts).length=qs.length:=by unfold fsOf; rw [List.length_zipWith]; omega
theorem fsOf_get {qs:List Q4} {ts:List (Rat×Rat)} {i:Nat} {q:Q4} {t:Rat×Rat} (h1:qs[i]? = some q) (h2:ts[i]? = some t):(fsOf qs ts)[i]? = some (q.1,t.1,t.2,q.2.2.2):=by unfold fsOf; rw [List.getElem?_zipWith,h1,h2]
def hdI (fs:List Sw.F4) (mo ma:Rat) (i:Nat):Bool:=match fs[i]? with | some f=>Sw.hdB mo ma f | none=>false
theorem hdP_eq (fs:List Sw.F4) (mo ma:Rat):Sw.hdP fs mo ma=(List.range fs.length).filter (hdI fs mo ma):=rfl
theorem range_filter (p:Nat→Bool) (i:Nat):(List.range (i+1)).filter p=(List.range i).filter p++(if p i=true then [i] else []):=by
  rw [List.range_succ,List.filter_append,List.filter_cons]
  rfl
theorem szq_at {n:Int} (h0:0≤n) (h1:n<100000000000000):Sw.SzQ 200 (n:Rat):=(Sw.SzQ.int (Sw.Sz.r18 (by omega) (by omega))).mono (by decide)
def natI (i:Nat):V:=.int (i:Int)
end L2
namespace Sw
open L2
structure FOk (n:Nat) (M:Int) (a c:Nat) (fs:List F4) (D:Int):Prop where
  F:Fit n M a c
  ln:fs.length≤n
  d0:0<D
  dz:Sz (c*n+1) D
  pc:∀ f∈fs,0≤f.1∧f.1<100000000000000
  tg:∀ f∈fs,Grd D f.2.1∧Grd D f.2.2.1∧0≤f.2.1∧f.2.1<f.2.2.1∧f.2.2.1≤((n*1000000:Int):Rat)
  sh:∀ f∈fs,1≤f.2.2.2∧f.2.2.2≤M
def cm (fs:List F4) (mo:Rat):Nat:=(fs.filter fun f=>decide (mo<(f.1:Rat))).length
theorem cm_le (fs:List F4) (mo:Rat):cm fs mo≤fs.length:=List.length_filter_le _ _
theorem cm_mono {fs:List F4} {mo mo':Rat} (h:mo≤mo'):cm fs mo'≤cm fs mo:=by
  unfold cm
  induction fs with
  | nil=>exact Nat.le_refl _
  | cons z r ih =>
    rw [List.filter_cons,List.filter_cons]
    by_cases e1:mo' < (z.1:Rat)
    · have e2:mo<(z.1:Rat):=by grind
      simp only [decide_eq_true e1,decide_eq_true e2,if_true,List.length_cons]
      omega
    · by_cases e2:mo<(z.1:Rat)
      · simp only [decide_eq_false e1,decide_eq_true e2,if_true,List.length_cons]
        simp
        omega
      · simp only [decide_eq_false e1,decide_eq_false e2]
        simpa using ih
theorem cm_lt {fs:List F4} {mo mo':Rat} (h:mo<mo') (hc:∃ f∈fs,mo<(f.1:Rat)∧mo'=(f.1:Rat)):cm fs mo' < cm fs mo:=by
  obtain ⟨f,hf,h1,h2⟩:=hc
  refine filter_len_lt (fun x _ hx=>?_) ⟨f,hf,decide_eq_true h1,by rw [h2]; simp only [decide_eq_false_iff_not]; grind⟩
  simp only [decide_eq_true_eq] at hx ⊢
  grind
structure FSt (n:Nat) (M:Int) (a c:Nat) (fs:List F4) (D:Int) (mo ma:Rat) (G:Int):Prop where
  g0:0<G
  gd:∃ j:Int,j≠0∧G=D*j
  gz:Sz (c*n+1+a*(n-cm fs mo)) G
  gm:Grd G mo
  gk:Grd G ma
  m0:0≤mo
  k0:0≤ma
  kB:ma≤((n*1000000:Int):Rat)
  mB:mo≤((100000000000000+(2*n-mu fs mo ma:Nat)*3600000000000000:Int):Rat)
section
variable {n:Nat} {M:Int} {a c:Nat} {fs:List F4} {D:Int} {mo ma:Rat} {G:Int}
theorem FSt.z60 (o:FOk n M a c fs D) (s:FSt n M a c fs D mo ma G):Sz 2001 G:=by
  refine s.gz.mono ?_
  have h1:=o.F.al2
  have h2:a*(n-cm fs mo)≤a*n:=Nat.mul_le_mul_left a (Nat.sub_le _ _)
  omega
theorem FSt.up (s:FSt n M a c fs D mo ma G) (d:0<D) {q:Rat} (h:Grd D q):Grd G q:=by
  obtain ⟨j,j0,e⟩:=s.gd
  rw [e]
  exact h.more (by omega) j0
theorem big_sz {G:Int} {q:Rat} (g0:0<G) (gz:Sz 2060 G) (h:Grd G q) (h1:((-10000000000000000000:Int):Rat)≤q) (h2:q≤((10000000000000000000:Int):Rat)):SzQ 2130 q:=by
  refine h.sz (M:=10000000000000000000) (a:=2060) (b:=70) g0 gz (Sz.r18 (by decide) (by decide)) ?_ h2 (by decide)
  have:((-10000000000000000000:Int):Rat) = -((10000000000000000000:Int):Rat):=Rat.intCast_neg _
  rw [← this]; exact h1
theorem FSt.moB (o:FOk n M a c fs D) (s:FSt n M a c fs D mo ma G):mo≤((1000000000000000000:Int):Rat):=by
  have h:=s.mB
  have l:=o.F.n1
  have:((100000000000000+(2*n-mu fs mo ma:Nat)*3600000000000000:Int):Rat)≤((1000000000000000000:Int):Rat):=by
    rw [Rat.intCast_le_intCast]
    have:(2*n-mu fs mo ma:Nat)≤120:=by omega
    omega
  grind
theorem FSt.kaB (o:FOk n M a c fs D) (s:FSt n M a c fs D mo ma G):ma≤((60000000:Int):Rat):=by
  have h:=s.kB
  have l:=o.F.n1
  have:((n*1000000:Int):Rat)≤((60000000:Int):Rat):=by
    rw [Rat.intCast_le_intCast]
    omega
  grind
theorem FOk.enB (o:FOk n M a c fs D) {f:F4} (h:f∈fs):f.2.2.1≤((60000000:Int):Rat):=by
  have h:=(o.tg f h).2.2.2.2
  have l:=o.F.n1
  have:((n*1000000:Int):Rat)≤((60000000:Int):Rat):=by
    rw [Rat.intCast_le_intCast]
    omega
  grind
theorem FOk.s1 (o:FOk n M a c fs D):∀ f∈fs,1≤f.2.2.2:=fun f h=>(o.sh f h).1
theorem FOk.shB (o:FOk n M a c fs D) (h:hdP fs mo ma≠[]):1≤shP fs (hdP fs mo ma)∧shP fs (hdP fs mo ma)≤n*M∧shP fs (hdP fs mo ma)≤60000000∧Sz a (shP fs (hdP fs mo ma)):=by
  have h1:=shP_pos o.s1 h
  have M1:=o.F.M1
  have h2:=shP_le (fs:=fs) (mo:=mo) (ma:=ma) (M:=M) (by omega) fun f hf=>(o.sh f hf).2
  have ln:=o.ln
  have h3:(fs.length:Int)*M≤n*M:=Int.mul_le_mul_of_nonneg_right (by omega) (by omega)
  have n1:=o.F.n1
  have M2:=o.F.M2
  have h4:(n:Int)*M≤60*1000000:=Int.mul_le_mul (by omega) M2 (by omega) (by omega)
  exact ⟨h1,by omega,by omega,sz_of (by omega) (by have:=o.F.sA; omega)⟩
theorem FSt.rest (o:FOk n M a c fs D) (s:FSt n M a c fs D mo ma G) {af:Rat} (t:Turn1 fs mo ma af ma) (hc:∃ f∈fs,mo<(f.1:Rat)∧af=(f.1:Rat)):FSt n M a c fs D af ma G:=by
  have lt:=cm_lt t.gt hc
  have gt:=t.gt
  have m0:=s.m0
  obtain ⟨f,hf,h1,h2⟩:=hc
  obtain ⟨p0,p1⟩:=o.pc f hf
  refine ⟨s.g0,s.gd,s.gz.mono ?_,by rw [h2]; exact Grd.int (by have:=s.g0; omega) _,s.gk,by grind,s.k0,s.kB,?_⟩
  · have:a*(n-cm fs mo)≤a*(n-cm fs af):=Nat.mul_le_mul_left a (by omega)
    omega
  · rw [h2,Rat.intCast_le_intCast]
    omega
theorem FSt.go2 (o:FOk n M a c fs D) (s:FSt n M a c fs D mo ma G) (h:hdP fs mo ma≠[]):∃ G' j:Int,j≠0∧G'=G*j∧FSt n M a c fs D (minL (chA fs mo ma)) (ma+(minL (chA fs mo ma)-mo) / (shP fs (hdP fs mo ma):Rat)) G':=by
  have t:=turn_go o.s1 h
  obtain ⟨S1,S2,S3,S4⟩:=o.shB h
  obtain ⟨fl,hfl,hbl,el⟩:=lstE_mem h
  have eB:=o.enB hfl
  rw [← el] at eB
  have lg:Grd G (lstE fs mo ma):=by rw [el]; exact s.up o.d0 (o.tg fl hfl).2.1
  have lk:lstE fs mo ma≤((n*1000000:Int):Rat):=by rw [el]; exact (o.tg fl hfl).2.2.2.2
  have le:=t.le h
  have gt:=t.gt
  have ge:=t.ge
  have mu':=turn_mu t
  have m0:=s.m0
  have k0:=s.k0
  have mB:=s.mB
  have g0:=s.g0
  have gn:G≠0:=by omega
  have Sn:shP fs (hdP fs mo ma)≠0:=by omega
  have e1:fst1 fs mo ma=mo+(lstE fs mo ma-ma)*(shP fs (hdP fs mo ma):Rat):=rfl
  have mul:=mu_le fs mo ma
  have ln:=o.ln
  generalize shP fs (hdP fs mo ma)=S at S1 S2 S3 S4 Sn e1 t le ge mu' ⊢
  generalize minL (chA fs mo ma)=af at t le gt ge mu' ⊢
  rcases t.way with hc | ⟨_,e2,e3,_⟩
  · have lt:=cm_lt gt hc
    obtain ⟨f,hf,h1,h2⟩:=hc
    obtain ⟨p0,p1⟩:=o.pc f hf
    refine ⟨G*S,S,Sn,rfl,Int.mul_pos g0 (by omega),?_,(s.gz.mul S4).mono ?_,by rw [h2]; exact Grd.int (Int.mul_ne_zero gn Sn) _,?_,by grind,by grind,by grind,?_⟩
    · obtain ⟨j,j0,e⟩:=s.gd
      exact ⟨j*S,Int.mul_ne_zero j0 Sn,by rw [e,Int.mul_assoc]⟩
    · have c1:=cm_le fs mo
      have:a*(n-cm fs mo)+a≤a*(n-cm fs af):=by
        have:a*(n-cm fs mo+1)≤a*(n-cm fs af):=Nat.mul_le_mul_left a (by omega)
        rw [Nat.mul_add,Nat.mul_one] at this
        exact this
      omega
    · refine (s.gk.more gn Sn).add (Grd.divi gn ?_ Sn)
      rw [h2]
      exact (Grd.int gn _).sub s.gm
    · rw [h2,Rat.intCast_le_intCast]
      omega
  · have mu2:mu fs af (lstE fs mo ma)<mu fs mo ma:=by rw [← e3]; exact mu'
    rw [e3]
    have gaf:Grd G af:=by rw [e2,e1]; exact s.gm.add ((lg.sub s.gk).muli S)
    refine ⟨G,1,by decide,by omega,g0,s.gd,s.gz.mono ?_,gaf,lg,by grind,by grind,lk,?_⟩
    · have c1:=cm_mono (fs:=fs) (mo:=mo) (mo':=af) (by grind)
      have:a*(n-cm fs mo)≤a*(n-cm fs af):=Nat.mul_le_mul_left a (by omega)
      omega
    · have x:(lstE fs mo ma-ma)*(S:Rat)≤((3600000000000000:Int):Rat):=by
        have a1:lstE fs mo ma-ma≤((60000000:Int):Rat):=by grind
        have a2:(S:Rat)≤((60000000:Int):Rat):=Rat.intCast_le_intCast.mpr S3
        have a3:(0:Rat)≤(S:Rat):=by
          have:=q_cast_pos (show 0<S by omega)
          grind
        have b1:=Rat.mul_le_mul_of_nonneg_right a1 a3
        have b2:((60000000:Int):Rat)*(S:Rat)≤((60000000:Int):Rat)*((60000000:Int):Rat):=Rat.mul_le_mul_of_nonneg_left a2 (by decide)
        have b3:((60000000:Int):Rat)*((60000000:Int):Rat)=((3600000000000000:Int):Rat):=by decide +kernel
        grind
      have y:((100000000000000+(2*n-mu fs mo ma:Nat)*3600000000000000:Int):Rat)+((3600000000000000:Int):Rat)≤((100000000000000+(2*n-mu fs af (lstE fs mo ma):Nat)*3600000000000000:Int):Rat):=by
        rw [← Rat.intCast_add,Rat.intCast_le_intCast]
        generalize mu fs af (lstE fs mo ma)=u at mu2 ⊢
        generalize mu fs mo ma=v at mu2 mul ⊢
        omega
      rw [e2,e1] at *
      grind
theorem FSt.go (o:FOk n M a c fs D) (s:FSt n M a c fs D mo ma G) (h:hdP fs mo ma≠[]):∃ G',FSt n M a c fs D (minL (chA fs mo ma)) (ma+(minL (chA fs mo ma)-mo) / (shP fs (hdP fs mo ma):Rat)) G':=let ⟨G',_,_,_,s'⟩:=s.go2 o h; ⟨G',s'⟩
end
theorem tags_ok {n:Nat} {M:Int} {a c:Nat} (F:Fit n M a c):∀ {l:List Q4} {s:Ti} {k:Nat} {D:Int},RunOk n M c s k D→k+l.length≤n→(∀ q∈l,PcOk M q)→(∀ q∈l,s.lat≤q.1)→l.Pairwise (fun a b=>a.1≤b.1) →
    ∃ D' j:Int,j≠0∧D'=D*j∧0<D'∧Sz (c*(k+l.length)+1) D'∧∀ t∈s.tags l,Grd D' t.1∧Grd D' t.2∧0≤t.1∧t.1<t.2∧t.2≤(((k+l.length:Nat)*1000000:Int):Rat)
  | [],s,k,D,r,_,_,_,_=>⟨D,1,by decide,by omega,r.ok.gb.D0,r.dz,fun t h=>absurd h List.not_mem_nil⟩
  | q :: l,s,k,D,r,hk,hq,hl,hp=>by
    rw [List.length_cons] at hk
    obtain ⟨D1,j1,j10,e1,r1,g1,g2,b0,be,eB⟩:=r.come F (by omega) (hq q (by simp)) (hl q (by simp))
    obtain ⟨h1,h2⟩:=List.pairwise_cons.mp hp
    obtain ⟨D2,j2,j20,e2,d0,dz,ht⟩:=tags_ok F (l:=l) (s:=s.come q) (k:=k+1) r1 (by omega) (fun x hx=>hq x (List.mem_cons_of_mem _ hx)) (fun x hx=>h1 x hx) h2
    have d1:=r1.ok.gb.D0
    have ek:k+1+l.length=k+(l.length+1):=by omega
    rw [ek] at dz ht
    refine ⟨D2,j1*j2,Int.mul_ne_zero j10 j20,by rw [e2,e1,Int.mul_assoc],d0,dz,fun t h=>?_⟩
    rcases List.mem_cons.mp h with e | e
    · subst e
      refine ⟨by rw [e2]; exact g1.more (by omega) j20,by rw [e2]; exact g2.more (by omega) j20,b0,be,?_⟩
      have:(((k+1:Nat)*1000000:Int):Rat)≤(((k+(l.length+1):Nat)*1000000:Int):Rat):=by
        rw [Rat.intCast_le_intCast]
        omega
      exact Rat.le_trans eB this
    · exact ht t e
theorem fs_ok {n:Nat} {M:Int} {a c:Nat} (F:Fit n M a c) {qs:List Q4} (hn:qs.length≤n) (hq:∀ q∈qs,PcOk M q) (hp:qs.Pairwise (fun a b=>a.1≤b.1)):∃ D,FOk n M a c (fsOf qs (Ti.nil.tags qs)) D:=by
  obtain ⟨D,j,j0,e,d0,dz,ht⟩:=tags_ok F (l:=qs) (s:=Ti.nil) (k:=0) RunOk.nil (by omega) hq (fun q h=>(hq q h).1) hp
  have mem:∀ f∈fsOf qs (Ti.nil.tags qs),∃ q∈qs,∃ t∈Ti.nil.tags qs,f=(q.1,t.1,t.2,q.2.2.2):=fun f hf=>by
    obtain ⟨i,hi⟩:=List.getElem?_of_mem hf
    unfold fsOf at hi
    rw [List.getElem?_zipWith] at hi
    cases e1:qs[i]? with
    | none=>rw [e1] at hi; simp at hi
    | some q =>
      cases e2:(Ti.nil.tags qs)[i]? with
      | none=>rw [e1,e2] at hi; simp at hi
      | some t =>
        rw [e1,e2] at hi
        exact ⟨q,List.mem_of_getElem? e1,t,List.mem_of_getElem? e2,(Option.some.inj hi).symm⟩
  have kn:(((0+qs.length:Nat)*1000000:Int):Rat)≤((n*1000000:Int):Rat):=by
    rw [Rat.intCast_le_intCast]
    omega
  refine ⟨D,F,by rw [fsOf_len Ti.tags_len]; exact hn,d0,dz.mono ?_,fun f hf=>?_,fun f hf=>?_,fun f hf=>?_⟩
  · have:c*(0+qs.length)≤c*n:=Nat.mul_le_mul_left c (by omega)
    omega
  · obtain ⟨q,h1,t,h2,rfl⟩:=mem f hf
    exact ⟨(hq q h1).1,(hq q h1).2.1⟩
  · obtain ⟨q,h1,t,h2,rfl⟩:=mem f hf
    obtain ⟨a1,a2,a3,a4,a5⟩:=ht t h2
    exact ⟨a1,a2,a3,a4,Rat.le_trans a5 kn⟩
  · obtain ⟨q,h1,t,h2,rfl⟩:=mem f hf
    exact ⟨(hq q h1).2.2.2.2.1,(hq q h1).2.2.2.2.2⟩
theorem chs_of:∀ {qs:List Q4} {ts:List (Rat×Rat)} {mo:Rat},ts.length=qs.length→chs (fsOf qs ts) mo=qs.filterMap fun q=>if mo<(q.1:Rat) then some (q.1:Rat) else none
  | [],[],_,_=>rfl
  | [],t :: _,_,h=>by simp at h
  | q :: _,[],_,h=>by simp at h
  | q :: qr,t :: tr,mo,h=>by
    have ih:=chs_of (qs:=qr) (ts:=tr) (mo:=mo) (by simpa using h)
    unfold chs fsOf at ih ⊢
    rw [List.zipWith_cons_cons,List.filterMap_cons,List.filterMap_cons,ih]
theorem mu0 {fs:List F4} {n:Nat} (h:fs.length≤n) (mo ma:Rat):mu fs mo ma≤2*n:=by
  have:=mu_le fs mo ma
  omega
theorem FSt.start {n:Nat} {M:Int} {a c:Nat} {fs:List F4} {D:Int} (o:FOk n M a c fs D):FSt n M a c fs D 0 0 D:=by
  refine ⟨o.d0,⟨1,by decide,by omega⟩,o.dz.mono (by omega),⟨0,?_⟩,⟨0,?_⟩,Rat.le_refl,Rat.le_refl,?_,?_⟩
  · rw [show ((0:Int):Rat) = 0 from rfl]; grind
  · rw [show ((0:Int):Rat) = 0 from rfl]; grind
  · have:((0:Int):Rat)≤((n*1000000:Int):Rat):=by rw [Rat.intCast_le_intCast]; omega
    exact this
  · have:((0:Int):Rat)≤((100000000000000+(2*n-mu fs 0 0:Nat)*3600000000000000:Int):Rat):=by rw [Rat.intCast_le_intCast]; omega
    exact this
theorem FOk.szt {n:Nat} {M:Int} {a c:Nat} {fs:List F4} {D:Int} (o:FOk n M a c fs D) {f:F4} (h:f∈fs):SzQ 2130 f.2.1∧SzQ 2130 f.2.2.1:=by
  obtain ⟨g1,g2,b0,be,_⟩:=o.tg f h
  have eB:=o.enB h
  have z:Sz 2060 D:=o.dz.mono (by have:=o.F.all; omega)
  have l1:((60000000:Int):Rat)≤((10000000000000000000:Int):Rat):=by decide
  have l2:((-10000000000000000000:Int):Rat)≤0:=by decide
  exact ⟨big_sz o.d0 z g1 (by grind) (by grind),big_sz o.d0 z g2 (by grind) (by grind)⟩
section
variable {n:Nat} {M:Int} {a c:Nat} {fs:List F4} {D:Int} {mo ma:Rat} {G:Int}
theorem FSt.zmo (o:FOk n M a c fs D) (s:FSt n M a c fs D mo ma G):SzQ 2130 mo:=by
  have h:=s.moB o
  have h0:=s.m0
  have l1:((1000000000000000000:Int):Rat)≤((10000000000000000000:Int):Rat):=by decide
  have l2:((-10000000000000000000:Int):Rat)≤0:=by decide
  exact big_sz s.g0 ((s.z60 o).mono (by decide)) s.gm (by grind) (by grind)
theorem FSt.zma (o:FOk n M a c fs D) (s:FSt n M a c fs D mo ma G):SzQ 2130 ma:=by
  have h:=s.kaB o
  have h0:=s.k0
  have l1:((60000000:Int):Rat)≤((10000000000000000000:Int):Rat):=by decide
  have l2:((-10000000000000000000:Int):Rat)≤0:=by decide
  exact big_sz s.g0 ((s.z60 o).mono (by decide)) s.gk (by grind) (by grind)
theorem FSt.way (o:FOk n M a c fs D) (s:FSt n M a c fs D mo ma G) (h:hdP fs mo ma≠[]):Grd G ((lstE fs mo ma-ma)*(shP fs (hdP fs mo ma):Rat))∧0≤(lstE fs mo ma-ma)*(shP fs (hdP fs mo ma):Rat)∧(lstE fs mo ma-ma)*(shP fs (hdP fs mo ma):Rat)≤((3600000000000000:Int):Rat)∧SzQ 2130 (lstE fs mo ma-ma):=by
  obtain ⟨S1,S2,S3,S4⟩:=o.shB h
  obtain ⟨fl,hfl,hbl,el⟩:=lstE_mem h
  obtain ⟨_,_,hm⟩:=hdB_iff.mp hbl
  rw [← el] at hm
  have eB:=o.enB hfl
  rw [← el] at eB
  have lg:Grd G (lstE fs mo ma):=by rw [el]; exact s.up o.d0 (o.tg fl hfl).2.1
  have k0:=s.k0
  have l1:((60000000:Int):Rat)≤((10000000000000000000:Int):Rat):=by decide
  have l2:((-10000000000000000000:Int):Rat)≤0:=by decide
  generalize shP fs (hdP fs mo ma)=S at S1 S2 S3 S4 ⊢
  have a1:lstE fs mo ma-ma≤((60000000:Int):Rat):=by grind
  have a2:(S:Rat)≤((60000000:Int):Rat):=Rat.intCast_le_intCast.mpr S3
  have a3:(0:Rat)≤(S:Rat):=by
    have:=q_cast_pos (show 0<S by omega)
    grind
  have b1:=Rat.mul_le_mul_of_nonneg_right a1 a3
  have b2:((60000000:Int):Rat)*(S:Rat)≤((60000000:Int):Rat)*((60000000:Int):Rat):=Rat.mul_le_mul_of_nonneg_left a2 (by decide)
  have b3:((60000000:Int):Rat)*((60000000:Int):Rat)=((3600000000000000:Int):Rat):=by decide +kernel
  exact ⟨(lg.sub s.gk).muli S,Rat.mul_nonneg (by grind) a3,by grind,big_sz s.g0 ((s.z60 o).mono (by decide)) (lg.sub s.gk) (by grind) (by grind)⟩
theorem FSt.zway (o:FOk n M a c fs D) (s:FSt n M a c fs D mo ma G) (h:hdP fs mo ma≠[]):SzQ 2130 ((lstE fs mo ma-ma)*(shP fs (hdP fs mo ma):Rat)):=by
  obtain ⟨g,g0,g1,_⟩:=s.way o h
  have l1:((3600000000000000:Int):Rat)≤((10000000000000000000:Int):Rat):=by decide
  have l2:((-10000000000000000000:Int):Rat)≤0:=by decide
  exact big_sz s.g0 ((s.z60 o).mono (by decide)) g (by grind) (by grind)
theorem FSt.chA (o:FOk n M a c fs D) (s:FSt n M a c fs D mo ma G):∀ x∈chA fs mo ma,Grd G x∧mo≤x∧x≤((2000000000000000000:Int):Rat):=fun x hx=>by
  have h:=s.moB o
  have l1:((1000000000000000000:Int):Rat)+((3600000000000000:Int):Rat)≤((2000000000000000000:Int):Rat):=by decide +kernel
  unfold Sw.chA at hx
  rcases List.mem_append.mp hx with z | z
  · obtain ⟨f,hf,h1,h2⟩:=chs_mem.mp z
    obtain ⟨p0,p1⟩:=o.pc f hf
    rw [h2]
    exact ⟨Grd.int (by have:=s.g0; omega) _,by grind,Rat.intCast_le_intCast.mpr (by omega)⟩
  · by_cases hn:hdP fs mo ma = []
    · rw [if_pos hn] at z; cases z
    · rw [if_neg hn] at z
      have e:x=fst1 fs mo ma:=by simpa using z
      obtain ⟨g,g0,g1,_⟩:=s.way o hn
      have e1:fst1 fs mo ma=mo+(lstE fs mo ma-ma)*(shP fs (hdP fs mo ma):Rat):=rfl
      rw [e,e1]
      exact ⟨s.gm.add g,by grind,by grind⟩
theorem FSt.zch (o:FOk n M a c fs D) (s:FSt n M a c fs D mo ma G) {x:Rat} (hx:x∈Sw.chA fs mo ma):SzQ 2130 x∧SzQ 2130 (x-mo):=by
  obtain ⟨g,h1,h2⟩:=s.chA o x hx
  have m0:=s.m0
  have l1:((2000000000000000000:Int):Rat)≤((10000000000000000000:Int):Rat):=by decide
  have l2:((-10000000000000000000:Int):Rat)≤0:=by decide
  exact ⟨big_sz s.g0 ((s.z60 o).mono (by decide)) g (by grind) (by grind),big_sz s.g0 ((s.z60 o).mono (by decide)) (g.sub s.gm) (by grind) (by grind)⟩
theorem FSt.zov (o:FOk n M a c fs D) (s:FSt n M a c fs D mo ma G) (h:hdP fs mo ma≠[]) {x:Rat} (hx:x∈Sw.chA fs mo ma):SzQ 2130 ((x-mo) / (shP fs (hdP fs mo ma):Rat)):=by
  obtain ⟨g,h1,h2⟩:=s.chA o x hx
  obtain ⟨S1,S2,S3,S4⟩:=o.shB h
  have g0:=s.g0
  have m0:=s.m0
  have a24:a≤30∨30<a:=by omega
  have l1:((2000000000000000000:Int):Rat)≤((10000000000000000000:Int):Rat):=by decide
  have l2:((-10000000000000000000:Int):Rat)≤0:=by decide
  generalize shP fs (hdP fs mo ma)=S at S1 S2 S3 S4 ⊢
  have S0:(0:Rat)<(S:Rat):=q_cast_pos (by omega)
  have S1':(1:Rat)≤(S:Rat):=by
    have:((1:Int):Rat)≤(S:Rat):=Rat.intCast_le_intCast.mpr S1
    exact this
  have z30 : Sz 30 S := sz_of (by omega) (by have : (2 : Int) ^ 30 = 1073741824 := by decide
                                             omega)
  have q0:0≤(x-mo) / (S:Rat):=by
    have:¬ (x-mo) / (S:Rat)<0:=by rw [Rat.div_lt_iff S0,Rat.zero_mul]; grind
    grind
  have q1:(x-mo) / (S:Rat)≤x-mo:=by
    have:¬ x-mo<(x-mo) / (S:Rat):=by
      rw [Rat.lt_div_iff S0]
      have:=Rat.mul_le_mul_of_nonneg_left S1' (show 0≤x-mo by grind)
      grind
    grind
  exact big_sz (Int.mul_pos g0 (by omega)) (((s.z60 o).mul z30).mono (by decide)) ((g.sub s.gm).divi (by omega) (by omega)) (by grind) (by grind)
end
end Sw
namespace Sw
open L2
def putP (en:Int→Option Rat) (e:Rat) (ps:List (Nat×Rat)):Int→Option Rat:=ps.foldl (fun m p=>setE m (p.1:Int) e) en
def endsF (xs:List Sch):Int→Option Rat:=xs.foldl (fun m x=>putP m x.2.1 x.2.2) fun _=>none
theorem putP_snoc (en:Int→Option Rat) (e:Rat) (ps:List (Nat×Rat)) (p:Nat×Rat):putP en e (ps++[p])=setE (putP en e ps) (p.1:Int) e:=by unfold putP; rw [List.foldl_append]; rfl
theorem endsF_snoc (xs:List Sch) (x:Sch):endsF (xs++[x])=putP (endsF xs) x.2.1 x.2.2:=by unfold endsF; rw [List.foldl_append]; rfl
def spansF (en:Int→Option Rat):Nat→(Int→Option Rat)→List Q4→List (Rat×Rat)
  | _,_,[]=>[]
  | i,ah,q :: r=>(max (q.1:Rat) ((ah q.2.1).getD 0),(en (i:Int)).getD (max (q.1:Rat) ((ah q.2.1).getD 0))) :: spansF en (i+1) (setE ah q.2.1 ((en (i:Int)).getD (max (q.1:Rat) ((ah q.2.1).getD 0)))) r
def aheadF (en:Int→Option Rat):Nat→(Int→Option Rat)→List Q4→(Int→Option Rat)
  | _,ah,[]=>ah
  | i,ah,q :: r=>aheadF en (i+1) (setE ah q.2.1 ((en (i:Int)).getD (max (q.1:Rat) ((ah q.2.1).getD 0)))) r
def begF (ah:Int→Option Rat) (q:Q4):Rat:=max (q.1:Rat) ((ah q.2.1).getD 0)
theorem spansF_snoc:∀ {en:Int→Option Rat} {i:Nat} {ah:Int→Option Rat} {l:List Q4} {q:Q4},spansF en i ah (l++[q])=spansF en i ah l++[(begF (aheadF en i ah l) q,(en ((i+l.length:Nat):Int)).getD (begF (aheadF en i ah l) q))]
  | _,_,_,[],_=>rfl
  | en,i,ah,x :: r,q=>by
    show _ :: spansF en (i+1) _ (r++[q]) = _ :: (spansF en (i+1) _ r++_)
    rw [spansF_snoc,show i+1+r.length=i+(x :: r).length by simp only [List.length_cons]; omega]
    rfl
theorem aheadF_snoc:∀ {en:Int→Option Rat} {i:Nat} {ah:Int→Option Rat} {l:List Q4} {q:Q4},aheadF en i ah (l++[q])=setE (aheadF en i ah l) q.2.1 ((en ((i+l.length:Nat):Int)).getD (begF (aheadF en i ah l) q))
  | _,_,_,[],_=>rfl
  | en,i,ah,x :: r,q=>by
    show aheadF en (i+1) _ (r++[q]) = _
    rw [aheadF_snoc,show i+1+r.length=i+(x :: r).length by simp only [List.length_cons]; omega]
    rfl
theorem flowF_len {fs:List F4}:∀ {n:Nat} {mo ma:Rat},(flowF fs n mo ma).length≤n
  | 0,_,_=>Nat.le_refl _
  | n+1,mo,ma=>by
    rw [flowF_succ]
    split
    · exact Nat.zero_le _
    · split
      · have:=flowF_len (fs:=fs) (n:=n) (mo:=minL (chA fs mo ma)) (ma:=ma)
        omega
      · rw [List.length_cons]
        have:=flowF_len (fs:=fs) (n:=n) (mo:=minL (chA fs mo ma)) (ma:=ma+(minL (chA fs mo ma)-mo) / (shP fs (hdP fs mo ma):Rat))
        omega
theorem flow_sz {n:Nat} {M:Int} {a c:Nat} {fs:List F4} {D:Int} (o:FOk n M a c fs D):∀ {k:Nat} {mo ma:Rat} {G:Int},FSt n M a c fs D mo ma G→∀ x∈flowF fs k mo ma,SzQ 2130 x.2.1∧x.2.2.length≤60
  | 0,_,_,_,_,x,hx=>by cases hx
  | k+1,mo,ma,G,s,x,hx=>by
    rw [flowF_succ] at hx
    by_cases ce:chA fs mo ma = []
    · rw [if_pos ce] at hx; cases hx
    · rw [if_neg ce] at hx
      by_cases he:hdP fs mo ma = []
      · rw [if_pos he] at hx
        have t1:=turn_rest he ce
        refine flow_sz o (s.rest o t1 ?_) x hx
        rcases t1.way with z | z
        · exact z
        · exact absurd he z.1
      · rw [if_neg he] at hx
        obtain ⟨G',s'⟩:=s.go o he
        rcases List.mem_cons.mp hx with e | e
        · subst e
          refine ⟨(s.zch o (minL_mem ce)).1,?_⟩
          show (prt fs mo ma).length≤60
          unfold prt
          rw [List.length_map]
          have:=hdP_len fs mo ma
          have:=o.ln
          have:=o.F.n1
          omega
        · exact flow_sz o s' x e
theorem putP_mem {e v:Rat} {w:Int}:∀ {ps:List (Nat×Rat)} {m:Int→Option Rat},putP m e ps w=some v→v=e∨m w=some v
  | [],m,h=>.inr h
  | p :: r,m,h=>by
    rcases putP_mem (ps:=r) (m:=setE m (p.1:Int) e) h with z | z
    · exact .inl z
    · unfold setE at z
      split at z
      · exact .inl (Option.some.inj z).symm
      · exact .inr z
theorem endsF_mem {v:Rat} {w:Int} {xs:List Sch} (h:endsF xs w=some v):∃ x∈xs,v=x.2.1:=by
  have go:∀ {xs:List Sch} {m:Int→Option Rat},xs.foldl (fun m x=>putP m x.2.1 x.2.2) m w=some v→(∃ x∈xs,v=x.2.1)∨m w=some v:=fun {xs}=>by
    induction xs with
    | nil=>intro m h; exact .inr h
    | cons x r ih =>
      intro m h
      rcases ih h with ⟨y,hy,e⟩ | z
      · exact .inl ⟨y,List.mem_cons_of_mem _ hy,e⟩
      · rcases putP_mem z with e | e
        · exact .inl ⟨x,by simp,e⟩
        · exact .inr e
  rcases go h with z | z
  · exact z
  · cases z
end Sw
namespace Sw
open L2
structure Scl where
  L:Int
  W:Int
  la:Int
  L0:0<L
  W0:0<W
  a0:0≤la
namespace Scl
variable (z:Scl)
def ro:Rat:=(z.L:Rat) / (z.W:Rat)
def tm (x:Rat):Rat:=x*(z.L:Rat)+(z.la:Rat)
def q4 (q:Q4):Q4:=(q.1*z.L+z.la,q.2.1,q.2.2.1*z.L,q.2.2.2*z.W)
def t3 (u:T3):T3:=(u.1*z.ro,u.2.1*z.ro,u.2.2*z.W)
variable {z}
variable (z)
end Scl
theorem spansF_len {en:Int→Option Rat}:∀ {l:List Q4} {i:Nat} {ah:Int→Option Rat},(spansF en i ah l).length=l.length
  | [],_,_=>rfl
  | q :: r,i,ah=>by
    show (spansF en (i+1) _ r).length+1 = _
    rw [spansF_len]
    rfl
end Sw
namespace Sw
open L2
theorem idx_filter {α β:Type} (p:α→Bool) (g:Option α→β):∀ fs:List α,((List.range fs.length).filter fun i=>(fs[i]?.map p).getD false).map (fun i=>g fs[i]?)=(fs.filter p).map fun f=>g (some f)
  | []=>rfl
  | f :: r=>by
    have ih:=idx_filter p g r
    rw [List.length_cons,List.range_succ_eq_map,List.filter_cons,List.filter_map,List.filter_cons]
    have e:((List.range r.length).filter ((fun i=>((f :: r)[i]?.map p).getD false) ∘ Nat.succ)).map ((fun i=>g (f :: r)[i]?) ∘ Nat.succ)=(r.filter p).map fun f=>g (some f):=ih
    cases hp:p f with
    | true =>
      rw [if_pos (by simp [hp]),if_pos rfl,List.map_cons,List.map_cons,List.map_map,e]
      rfl
    | false =>
      rw [if_neg (by simp [hp]),if_neg (by decide),List.map_map,e]
theorem hdP_idx (fs:List F4) (mo ma:Rat):hdP fs mo ma=(List.range fs.length).filter fun i=>(fs[i]?.map (hdB mo ma)).getD false:=by
  unfold hdP
  refine List.filter_congr fun i _=>?_
  cases fs[i]? <;> rfl
theorem minL_eq {l:List Rat} {x:Rat} (h:x∈l) (hl:∀ y∈l,x≤y):minL l=x:=by
  have h1:=minL_le h
  have h2:=hl _ (minL_mem (fun e=>by rw [e] at h; cases h))
  grind
def hdT (fs:List F4) (mo ma:Rat):List T3:=(fs.filter (hdB mo ma)).map (·.2)
theorem shP_T (fs:List F4) (mo ma:Rat):shP fs (hdP fs mo ma)=sumS (hdT fs mo ma):=by
  unfold shP sumS hdT
  rw [List.map_map,hdP_idx]
  have:=idx_filter (hdB mo ma) (fun o:Option F4=>(o.map fun f=>f.2.2.2).getD 0) fs
  exact congrArg List.sum this
theorem lstE_T (fs:List F4) (mo ma:Rat):lstE fs mo ma=fstE (hdT fs mo ma):=by
  unfold lstE fstE hdT
  rw [List.map_map,hdP_idx]
  have:=idx_filter (hdB mo ma) (fun o:Option F4=>(o.map fun f=>f.2.2.1).getD 0) fs
  exact congrArg minL this
theorem hdP_T (fs:List F4) (mo ma:Rat):hdP fs mo ma = []↔hdT fs mo ma = []:=by
  have e:(hdP fs mo ma).length=(hdT fs mo ma).length:=by
    have:=congrArg List.length (idx_filter (hdB mo ma) (fun _:Option F4=>()) fs)
    rw [List.length_map,List.length_map] at this
    unfold hdT
    rw [List.length_map,hdP_idx]
    exact this
  constructor
  · intro h; rw [h] at e; exact List.length_eq_zero_iff.mp e.symm
  · intro h; rw [h] at e; exact List.length_eq_zero_iff.mp e
def nxS (fs:List F4) (s:Rat×Rat):Rat×Rat :=
  if chA fs s.1 s.2 = [] then s else if hdP fs s.1 s.2 = [] then (minL (chA fs s.1 s.2),s.2) else (minL (chA fs s.1 s.2),s.2+(minL (chA fs s.1 s.2)-s.1) / (shP fs (hdP fs s.1 s.2):Rat))
def stS (fs:List F4):Nat→Rat×Rat
  | 0=>(0,0)
  | k+1=>nxS fs (stS fs k)
structure Btw (fs:List F4) (us:List T3) (lat re0 t:Rat):Prop where
  s1:∀ f∈fs,1≤f.2.2.2
  nx:∃ f∈fs,(f.1:Rat)=t
  sep:∀ f∈fs,(f.1:Rat)≤lat∨t≤(f.1:Rat)
  hd:∀ mo ma,lat≤mo→mo<t→re0≤ma→hdT fs mo ma=hds us ma
theorem Btw.chs {fs:List F4} {us:List T3} {lat re0 t mo:Rat} (b:Btw fs us lat re0 t) (h1:lat≤mo) (h2:mo<t):t∈chs fs mo∧∀ y∈chs fs mo,t≤y:=by
  refine ⟨?_,fun y hy=>?_⟩
  · obtain ⟨f,hf,e⟩:=b.nx
    exact chs_mem.mpr ⟨f,hf,by rw [e]; exact h2,e.symm⟩
  · obtain ⟨f,hf,h,e⟩:=chs_mem.mp hy
    rw [e]
    rcases b.sep f hf with z | z
    · grind
    · exact z
theorem markF_now {us:List T3} (us1:∀ u∈us,1≤u.2.2) {t:Rat}:∀ (n:Nat) (re:Rat),markF us t n t re=re
  | 0,_=>rfl
  | n+1,re=>by
    unfold markF
    by_cases h:hds us re = []
    · rw [if_pos h]
    · rw [if_neg h]
      have gt:=fstE_gt h
      have S1:1≤sumS (hds us re):=sum_pos (fun x hx=>by
        obtain ⟨u,hu,rfl⟩:=List.mem_map.mp hx
        exact us1 u (hds_mem hu).1) (by simpa using h)
      have S0:(0:Rat)<(sumS (hds us re):Rat):=q_cast_pos (by omega)
      have:=Rat.mul_pos (a:=fstE (hds us re)-re) (by grind) S0
      rw [if_pos (by grind)]
      have:(t-t) / (sumS (hds us re):Rat) = 0:=by grind
      rw [this]; grind
theorem run_to {fs:List F4} {us:List T3} {lat re0 t:Rat} (b:Btw fs us lat re0 t) (us1:∀ u∈us,1≤u.2.2):∀ (n k:Nat) (mo re:Rat),stS fs k=(mo,re)→lat≤mo→mo≤t→re0≤re→ahead us re<n→∃ k',k≤k'∧stS fs k'=(t,markF us t n mo re)
  | 0,_,_,_,_,_,_,_,h=>absurd h (Nat.not_lt_zero _)
  | n+1,k,mo,re,e,h1,h2,h3,h4=>by
    by_cases hm:mo=t
    · subst hm
      exact ⟨k,Nat.le_refl _,by rw [markF_now us1]; exact e⟩
    have hlt:mo<t:=by grind
    obtain ⟨c1,c2⟩:=b.chs h1 hlt
    have hT:=b.hd mo re h1 hlt h3
    have step:stS fs (k+1)=nxS fs (mo,re):=by show nxS fs (stS fs k) = _; rw [e]
    have ce:chA fs mo re≠[]:=by
      intro z
      unfold chA at z
      have:=(List.append_eq_nil_iff.mp z).1
      rw [this] at c1
      cases c1
    unfold markF
    by_cases hh:hds us re = []
    · rw [if_pos hh]
      have hd:hdP fs mo re = []:=(hdP_T fs mo re).mpr (by rw [hT,hh])
      refine ⟨k+1,Nat.le_succ _,?_⟩
      rw [step]
      unfold nxS
      rw [if_neg ce,if_pos hd]
      have:minL (chA fs mo re)=t:=by
        unfold chA
        rw [if_pos hd,List.append_nil]
        exact minL_eq c1 c2
      rw [this]
    · rw [if_neg hh]
      have hd:hdP fs mo re≠[]:=fun z=>hh (by rw [← hT]; exact (hdP_T fs mo re).mp z)
      have eS:shP fs (hdP fs mo re)=sumS (hds us re):=by rw [shP_T,hT]
      have eE:lstE fs mo re=fstE (hds us re):=by rw [lstE_T,hT]
      have e1:fst1 fs mo re=mo+(fstE (hds us re)-re)*(sumS (hds us re):Rat):=by
        show mo+(lstE fs mo re-re) * _ = _
        rw [eE,eS]
      have ech:∀ x,x∈chA fs mo re↔x∈chs fs mo∨x=fst1 fs mo re:=fun x=>by
        unfold chA
        rw [if_neg hd,List.mem_append]
        simp
      by_cases c:t<mo+(fstE (hds us re)-re)*(sumS (hds us re):Rat)
      · rw [if_pos c]
        have:minL (chA fs mo re)=t:=minL_eq ((ech t).mpr (.inl c1)) fun y hy=>by
          rcases (ech y).mp hy with z | z
          · exact c2 y z
          · rw [z,e1]; grind
        refine ⟨k+1,Nat.le_succ _,?_⟩
        rw [step]
        unfold nxS
        rw [if_neg ce,if_neg hd,this,eS]
      · rw [if_neg c]
        have em:minL (chA fs mo re)=fst1 fs mo re:=minL_eq ((ech _).mpr (.inr rfl)) fun y hy=>by
          rcases (ech y).mp hy with z | z
          · have:=c2 y z
            rw [e1]; grind
          · rw [z]; exact Rat.le_refl
        have tg:=turn_go b.s1 hd
        rw [em,e1,eS] at tg
        have gt:=tg.gt
        have gE:=fstE_gt hh
        have S1:1≤sumS (hds us re):=by
          have:=shP_pos b.s1 hd
          rw [eS] at this
          exact this
        have S0:(0:Rat)<(sumS (hds us re):Rat):=q_cast_pos (by omega)
        have ema:re+(mo+(fstE (hds us re)-re)*(sumS (hds us re):Rat)-mo) / (sumS (hds us re):Rat)=fstE (hds us re):=by
          have:(sumS (hds us re):Rat)≠0:=by grind
          grind
        have st:stS fs (k+1)=(mo+(fstE (hds us re)-re)*(sumS (hds us re):Rat),fstE (hds us re)):=by
          rw [step]
          unfold nxS
          rw [if_neg ce,if_neg hd,em,e1,eS,ema]
        have al:=ahead_lt hh
        obtain ⟨k',hk,ek⟩:=run_to b us1 n (k+1) _ _ st (by grind) (by grind) (by grind) (by omega)
        exact ⟨k',by omega,ek⟩
end Sw
namespace Sw
open L2
theorem lat_to {qs:List Q4}:∀ {s:Ti} {i:Nat} {q:Q4},(∀ q∈qs,s.lat≤q.1)→qs.Pairwise (fun a b=>a.1≤b.1)→qs[i]? = some q→(s.after (qs.take i)).lat≤q.1:=by
  induction qs with
  | nil=>intro s i q _ _ e; simp at e
  | cons x r ih =>
    intro s i q h0 hp e
    obtain ⟨h1,h2⟩:=List.pairwise_cons.mp hp
    cases i with
    | zero =>
      have:x=q:=by simpa using e
      subst this
      exact h0 x (by simp)
    | succ j =>
      have e:r[j]? = some q:=by simpa using e
      exact ih (s:=s.come x) (fun y hy=>h1 y hy) h2 e
structure Good (n:Nat) (M:Int) (a c:Nat) (qs:List Q4):Prop where
  F:Fit n M a c
  ln:qs.length≤n
  pc:∀ q∈qs,PcOk M q
  pw:qs.Pairwise (fun a b=>a.1≤b.1)
theorem Good.run {n:Nat} {M:Int} {a c:Nat} {qs:List Q4} (g:Good n M a c qs):∀ {i:Nat},i≤qs.length→∃ D,RunOk n M c (Ti.nil.after (qs.take i)) i D
  | 0,_=>⟨1,RunOk.nil⟩
  | i+1,hi=>by
    obtain ⟨D,r⟩:=g.run (i:=i) (by omega)
    have e:qs[i]? = some (qs[i]'(by omega)):=List.getElem?_eq_getElem _
    obtain ⟨D',j,_,_,r',_⟩:=r.come g.F (by have:=g.ln; omega) (g.pc _ (List.mem_of_getElem? e)) (lat_to (s:=Ti.nil) (fun q h=>(g.pc q h).1) g.pw e)
    rw [L2.take_succ_of e,Ti.after_snoc]
    exact ⟨D',r'⟩
theorem Good.rv_ge {n:Nat} {M:Int} {a c:Nat} {qs:List Q4} (g:Good n M a c qs) {i:Nat} {q:Q4} (e:qs[i]? = some q):(Ti.nil.after (qs.take i)).re≤(Ti.nil.after (qs.take i)).rv q:=by
  have hi:=(List.getElem?_eq_some_iff.mp e).1
  obtain ⟨D,r⟩:=g.run (i:=i) (by omega)
  exact (markAt_ok r.ok (lat_to (s:=Ti.nil) (fun q h=>(g.pc q h).1) g.pw e)).2.1
def uOf (l:List Q4):List T3:=List.zipWith (fun q t=>(t.1,t.2,q.2.2.2)) l (Ti.nil.tags l)
theorem uOf_snoc (l:List Q4) (q:Q4):uOf (l++[q])=uOf l++[((Ti.nil.after l).beg q,(Ti.nil.after l).fin q,q.2.2.2)]:=by
  unfold uOf
  rw [Ti.tags_snoc,List.zipWith_append (by rw [Ti.tags_len])]
  rfl
theorem Good.hds {n:Nat} {M:Int} {a c:Nat} {qs:List Q4} (g:Good n M a c qs):∀ {i:Nat},i≤qs.length→∀ m,(Ti.nil.after (qs.take i)).re≤m→Sw.hds (Ti.nil.after (qs.take i)).us m=(uOf (qs.take i)).filter (isHd m)
  | 0,_,m,_=>rfl
  | i+1,hi,m,hm=>by
    have e:qs[i]? = some (qs[i]'(by omega)):=List.getElem?_eq_getElem _
    have ge:=g.rv_ge e
    generalize qs[i]'(by omega)=q at e ge
    rw [L2.take_succ_of e,Ti.after_snoc] at hm ⊢
    have hm:(Ti.nil.after (qs.take i)).rv q≤m:=hm
    rw [uOf_snoc,List.filter_append,← g.hds (i:=i) (by omega) m (by grind)]
    show ((((Ti.nil.after (qs.take i)).us.filter fun u:T3=>decide ((Ti.nil.after (qs.take i)).rv q<u.2.1))++[_]).filter (isHd m)) = _
    rw [List.filter_append,List.filter_filter]
    unfold Sw.hds
    congr 1
    refine List.filter_congr fun u _=>?_
    cases h:isHd m u with
    | false=>rfl
    | true =>
      unfold isHd at h
      simp only [Bool.and_eq_true,Bool.not_eq_true',decide_eq_false_iff_not,decide_eq_true_eq] at h
      rw [Bool.true_and,decide_eq_true_eq]
      grind
theorem tags_take:∀ {s:Ti} {l:List Q4} {i:Nat},s.tags (l.take i)=(s.tags l).take i
  | _,_,0=>by simp [Ti.tags]
  | _,[],_ + 1=>rfl
  | s,q :: r,i+1=>by
    show (s.beg q,s.fin q) :: (s.come q).tags (r.take i) = _
    rw [tags_take]
    rfl
theorem fs_take (qs:List Q4) (i:Nat):((fsOf qs (Ti.nil.tags qs)).take i).map (·.2)=uOf (qs.take i):=by
  unfold fsOf uOf
  rw [List.take_zipWith,tags_take,List.map_zipWith]
theorem fs_mem_at {qs:List Q4} {i:Nat} {q:Q4} (e:qs[i]? = some q):∃ t:Rat×Rat,(fsOf qs (Ti.nil.tags qs))[i]? = some (q.1,t.1,t.2,q.2.2.2):=by
  have hi:=(List.getElem?_eq_some_iff.mp e).1
  exact ⟨_,fsOf_get e (List.getElem?_eq_getElem (show i<(Ti.nil.tags qs).length by rw [Ti.tags_len]; exact hi))⟩
theorem lat_of {qs:List Q4}:∀ {i:Nat} {q:Q4},qs[i]? = some q→(Ti.nil.after (qs.take (i+1))).lat=q.1:=fun {i q} e=>by
  rw [L2.take_succ_of e,Ti.after_snoc]
  rfl
theorem Good.btw {n:Nat} {M:Int} {a c:Nat} {qs:List Q4} (g:Good n M a c qs) {i:Nat} {q:Q4} (e:qs[i]? = some q):Btw (fsOf qs (Ti.nil.tags qs)) (Ti.nil.after (qs.take i)).us ((Ti.nil.after (qs.take i)).lat:Rat) (Ti.nil.after (qs.take i)).re (q.1:Rat):=by
  have hi:=(List.getElem?_eq_some_iff.mp e).1
  obtain ⟨D,ok⟩:=fs_ok g.F g.ln g.pc g.pw
  have pwi:=List.pairwise_iff_getElem.mp g.pw
  have at_:∀ {j:Nat} {f:F4},(fsOf qs (Ti.nil.tags qs))[j]? = some f→∃ r,qs[j]? = some r∧f.1=r.1:=fun {j f} h=>by
    have hj:j<qs.length:=by
      have:=(List.getElem?_eq_some_iff.mp h).1
      rw [fsOf_len Ti.tags_len] at this
      exact this
    have e1:qs[j]? = some (qs[j]'hj):=List.getElem?_eq_getElem _
    obtain ⟨t,e2⟩:=fs_mem_at e1
    rw [h] at e2
    cases e2
    exact ⟨_,e1,rfl⟩
  have low:∀ {j:Nat} {r:Q4},qs[j]? = some r→j<i→r.1≤(Ti.nil.after (qs.take i)).lat:=fun {j r} h hj=>by
    obtain ⟨i',rfl⟩:∃ i',i=i' + 1:=⟨i-1,by omega⟩
    have e1:qs[i']? = some (qs[i']'(by omega)):=List.getElem?_eq_getElem _
    rw [lat_of e1]
    have hj2:=(List.getElem?_eq_some_iff.mp h).1
    have ej:qs[j]'hj2=r:=(List.getElem?_eq_some_iff.mp h).2
    by_cases c:j=i'
    · subst c
      rw [ej]
      exact Int.le_refl _
    · have:=pwi j i' hj2 (by omega) (by omega)
      rw [ej] at this
      exact this
  have high:∀ {j:Nat} {r:Q4},qs[j]? = some r→i≤j→q.1≤r.1:=fun {j r} h hj=>by
    have hj2:=(List.getElem?_eq_some_iff.mp h).1
    have ej:qs[j]'hj2=r:=(List.getElem?_eq_some_iff.mp h).2
    have ei:qs[i]'hi=q:=(List.getElem?_eq_some_iff.mp e).2
    by_cases c:j=i
    · subst c
      rw [← ej,← ei]
      exact Int.le_refl _
    · have:=pwi i j hi hj2 (by omega)
      rw [ej,ei] at this
      exact this
  refine ⟨ok.s1,?_,fun f hf=>?_,fun mo ma h1 h2 h3=>?_⟩
  · obtain ⟨t,h⟩:=fs_mem_at e
    exact ⟨_,List.mem_of_getElem? h,rfl⟩
  · obtain ⟨j,hj⟩:=List.getElem?_of_mem hf
    obtain ⟨r,hr,er⟩:=at_ hj
    rw [er,Rat.intCast_le_intCast,Rat.intCast_le_intCast]
    by_cases c:j<i
    · exact .inl (low hr c)
    · exact .inr (high hr (by omega))
  · have sp:fsOf qs (Ti.nil.tags qs)=(fsOf qs (Ti.nil.tags qs)).take i++(fsOf qs (Ti.nil.tags qs)).drop i:=(List.take_append_drop _ _).symm
    unfold hdT
    rw [sp,List.filter_append]
    have e1:((fsOf qs (Ti.nil.tags qs)).drop i).filter (hdB mo ma) = []:=by
      refine List.filter_eq_nil_iff.mpr fun f hf=>?_
      obtain ⟨j,hj⟩:=List.getElem?_of_mem hf
      rw [List.getElem?_drop] at hj
      obtain ⟨r,hr,er⟩:=at_ hj
      have:=high hr (by omega)
      have:(q.1:Rat)≤(r.1:Rat):=Rat.intCast_le_intCast.mpr this
      intro z
      obtain ⟨z1,_⟩:=hdB_iff.mp z
      rw [er] at z1
      grind
    have e2:((fsOf qs (Ti.nil.tags qs)).take i).filter (hdB mo ma)=((fsOf qs (Ti.nil.tags qs)).take i).filter fun f=>isHd ma f.2:=by
      refine List.filter_congr fun f hf=>?_
      obtain ⟨j,hj⟩:=List.getElem?_of_mem hf
      have hji:j<i:=by
        have:=(List.getElem?_eq_some_iff.mp hj).1
        rw [List.length_take] at this
        omega
      rw [List.getElem?_take,if_pos hji] at hj
      obtain ⟨r,hr,er⟩:=at_ hj
      have:=low hr hji
      have:(r.1:Rat)≤((Ti.nil.after (qs.take i)).lat:Rat):=Rat.intCast_le_intCast.mpr this
      unfold hdB
      rw [er,decide_eq_false (by grind)]
      rfl
    rw [e1,List.append_nil,e2,g.hds (by omega) ma h3,← fs_take,List.filter_map]
    rfl
theorem Good.at_coming {n:Nat} {M:Int} {a c:Nat} {qs:List Q4} (g:Good n M a c qs):∀ {i:Nat},i≤qs.length→∃ k,stS (fsOf qs (Ti.nil.tags qs)) k=(((Ti.nil.after (qs.take i)).lat:Rat),(Ti.nil.after (qs.take i)).re)
  | 0,_=>⟨0,rfl⟩
  | i+1,hi=>by
    obtain ⟨k,hk⟩:=g.at_coming (i:=i) (by omega)
    have e:qs[i]? = some (qs[i]'(by omega)):=List.getElem?_eq_getElem _
    have lt:=lat_to (s:=Ti.nil) (fun q h=>(g.pc q h).1) g.pw e
    obtain ⟨D,r⟩:=g.run (i:=i) (by omega)
    obtain ⟨k',_,hk'⟩:=run_to (g.btw e) (fun u hu=>(r.ok.tus u hu).s1) ((Ti.nil.after (qs.take i)).us.length+1) k _ _ hk Rat.le_refl (Rat.intCast_le_intCast.mpr lt) Rat.le_refl (by have:=ahead_le (Ti.nil.after (qs.take i)).us (Ti.nil.after (qs.take i)).re; omega)
    refine ⟨k',?_⟩
    rw [hk',L2.take_succ_of e,Ti.after_snoc]
    rfl
end Sw
namespace Sw
open L2
section
variable {fs:List F4}
def hdAt (fs:List F4) (i:Nat) (s:Rat×Rat):Prop:=∃ f,fs[i]? = some f∧(f.1:Rat)≤s.1∧f.2.1≤s.2∧s.2<f.2.2.1
theorem hdAt_mem {i:Nat} {s:Rat×Rat}:hdAt fs i s↔i∈hdP fs s.1 s.2:=by
  rw [hdP_mem]
  constructor
  · rintro ⟨f,e,h⟩; exact ⟨f,e,hdB_iff.mpr h⟩
  · rintro ⟨f,e,h⟩; exact ⟨f,e,hdB_iff.mp h⟩
theorem stS_turn (s1:∀ f∈fs,1≤f.2.2.2) (k:Nat):(chA fs (stS fs k).1 (stS fs k).2 = []∧stS fs (k+1)=stS fs k)∨(chA fs (stS fs k).1 (stS fs k).2≠[]∧Turn1 fs (stS fs k).1 (stS fs k).2 (stS fs (k+1)).1 (stS fs (k+1)).2):=by
  show _∨_
  have e:stS fs (k+1)=nxS fs (stS fs k):=rfl
  rw [e]
  generalize stS fs k=s
  unfold nxS
  by_cases c:chA fs s.1 s.2 = []
  · exact .inl ⟨c,by rw [if_pos c]⟩
  · refine .inr ⟨c,?_⟩
    rw [if_neg c]
    by_cases h:hdP fs s.1 s.2 = []
    · rw [if_pos h]; exact turn_rest h c
    · rw [if_neg h]; exact turn_go s1 h
theorem stS_le (s1:∀ f∈fs,1≤f.2.2.2) (k:Nat):(stS fs k).1≤(stS fs (k+1)).1∧(stS fs k).2≤(stS fs (k+1)).2:=by
  rcases stS_turn s1 k with ⟨_,e⟩ | ⟨_,t⟩
  · rw [e]; exact ⟨Rat.le_refl,Rat.le_refl⟩
  · have:=t.gt
    exact ⟨by grind,t.ge⟩
theorem stS_mono (s1:∀ f∈fs,1≤f.2.2.2) {j:Nat}:∀ {k:Nat},j≤k→(stS fs j).1≤(stS fs k).1∧(stS fs j).2≤(stS fs k).2
  | 0,h=>by
    have:j = 0:=by omega
    subst this
    exact ⟨Rat.le_refl,Rat.le_refl⟩
  | k+1,h=>by
    by_cases c:j=k+1
    · subst c; exact ⟨Rat.le_refl,Rat.le_refl⟩
    · have a:=stS_mono s1 (j:=j) (k:=k) (by omega)
      have b:=stS_le s1 k
      exact ⟨Rat.le_trans a.1 b.1,Rat.le_trans a.2 b.2⟩
theorem stS_stay {j:Nat} (h:chA fs (stS fs j).1 (stS fs j).2 = []):∀ {k:Nat},j≤k→stS fs k=stS fs j
  | 0,hk=>by
    have:j = 0:=by omega
    subst this
    rfl
  | k+1,hk=>by
    by_cases c:j=k+1
    · subst c; rfl
    · have e:=stS_stay h (k:=k) (by omega)
      show nxS fs (stS fs k) = _
      rw [e]
      unfold nxS
      rw [if_pos h]
theorem stS_lt (s1:∀ f∈fs,1≤f.2.2.2) {j k:Nat} (h:j<k) (hc:chA fs (stS fs k).1 (stS fs k).2≠[]):(stS fs j).1<(stS fs k).1:=by
  rcases stS_turn s1 j with ⟨c,_⟩ | ⟨_,t⟩
  · exfalso
    have:=stS_stay c (k:=k) (by omega)
    rw [this] at hc
    exact hc c
  · have a:=(stS_mono s1 (show j+1≤k by omega)).1
    have:=t.gt
    grind
theorem hdAt_go {i:Nat} {k:Nat} (h:hdAt fs i (stS fs k)):chA fs (stS fs k).1 (stS fs k).2≠[]:=chA_ne fun z=>by
  have:=hdAt_mem.mp h
  rw [z] at this
  cases this
theorem flows_out (s1:∀ f∈fs,1≤f.2.2.2) {i:Nat} {f:F4} (hf:fs[i]? = some f):∀ (m k:Nat),mu fs (stS fs k).1 (stS fs k).2≤m→hdAt fs i (stS fs k)→∃ k2,k<k2∧(stS fs k2).2=f.2.2.1∧∀ j,k≤j→j<k2→hdAt fs i (stS fs j)
  | m,k,hm,h=>by
    have ne:hdP fs (stS fs k).1 (stS fs k).2≠[]:=fun z=>by
      have:=hdAt_mem.mp h
      rw [z] at this
      cases this
    rcases stS_turn s1 k with ⟨c,_⟩ | ⟨_,t⟩
    · exact absurd c (hdAt_go h)
    have mu1:=turn_mu t
    have le:=t.le ne
    have ge:=t.ge
    have gt:=t.gt
    obtain ⟨g,e,a1,a2,a3⟩:=h
    rw [hf] at e
    cases e
    have lE:lstE fs (stS fs k).1 (stS fs k).2≤f.2.2.1:=by
      refine minL_le (List.mem_map.mpr ⟨i,hdAt_mem.mp ⟨f,hf,a1,a2,a3⟩,?_⟩)
      exact enP_at hf
    by_cases c:(stS fs (k+1)).2=f.2.2.1
    · refine ⟨k+1,by omega,c,fun j h1 h2=>?_⟩
      have:j=k:=by omega
      subst this
      exact ⟨f,hf,a1,a2,a3⟩
    · have hn:hdAt fs i (stS fs (k+1)):=⟨f,hf,by grind,by grind,by grind⟩
      match m,hm with
      | 0,hm=>omega
      | m+1,hm =>
        obtain ⟨k2,h1,h2,h3⟩:=flows_out s1 hf m (k+1) (by omega) hn
        refine ⟨k2,by omega,h2,fun j b1 b2=>?_⟩
        by_cases cj:j=k
        · subst cj; exact ⟨f,hf,a1,a2,a3⟩
        · exact h3 j (by omega) b2
structure Lives (fs:List F4) (i:Nat) (f:F4) (k1 k2:Nat):Prop where
  lt:k1<k2
  hd:∀ k,hdAt fs i (stS fs k)↔k1≤k∧k<k2
  en:(stS fs k2).2=f.2.2.1
  pa:∀ k,f.2.2.1≤(stS fs k).2↔k2≤k
theorem lives_of (s1:∀ f∈fs,1≤f.2.2.2) {i k1:Nat} {f:F4} (hf:fs[i]? = some f) (h:hdAt fs i (stS fs k1)) (no:∀ k,k<k1→¬ hdAt fs i (stS fs k)):∃ k2,Lives fs i f k1 k2:=by
  obtain ⟨k2,h1,h2,h3⟩:=flows_out s1 hf _ k1 (Nat.le_refl _) h
  have past:∀ k,f.2.2.1≤(stS fs k).2↔k2≤k:=fun k=>by
    constructor
    · intro z
      by_cases c:k2≤k
      · exact c
      · exfalso
        obtain ⟨g,e,_,_,a3⟩:=h3 (k2-1) (by omega) (by omega)
        rw [hf] at e
        cases e
        have:=(stS_mono s1 (show k≤k2-1 by omega)).2
        grind
    · intro z
      have:=(stS_mono s1 z).2
      grind
  refine ⟨k2,h1,fun k=>⟨fun hk=>?_,fun hk=>h3 k hk.1 hk.2⟩,h2,past⟩
  refine ⟨?_,?_⟩
  · by_cases c:k1≤k
    · exact c
    · exact absurd hk (no k (by omega))
  · by_cases c:k<k2
    · exact c
    · exfalso
      obtain ⟨g,e,_,_,a3⟩:=hk
      rw [hf] at e
      cases e
      have:=(past k).mpr (by omega)
      grind
end
end Sw
namespace Sw
open L2
section
variable {fs:List F4}
def emit (fs:List F4) (k:Nat):List Sch:=if hdP fs (stS fs k).1 (stS fs k).2 = [] then [] else [((stS fs k).1,(stS fs (k+1)).1,prt fs (stS fs k).1 (stS fs k).2)]
theorem flowF_nil {mo ma:Rat} (h:chA fs mo ma = []):∀ n,flowF fs n mo ma = []
  | 0=>rfl
  | n+1=>by rw [flowF_succ,if_pos h]
theorem flowF_emit (n k:Nat):flowF fs (n+1) (stS fs k).1 (stS fs k).2=emit fs k++flowF fs n (stS fs (k+1)).1 (stS fs (k+1)).2:=by
  rw [flowF_succ]
  unfold emit
  have e:stS fs (k+1)=nxS fs (stS fs k):=rfl
  rw [e]
  generalize stS fs k=s
  by_cases c:chA fs s.1 s.2 = []
  · have h:hdP fs s.1 s.2 = []:=by
      by_cases z:hdP fs s.1 s.2 = []
      · exact z
      · exact absurd c (chA_ne z)
    have en:nxS fs s=s:=by unfold nxS; rw [if_pos c]
    rw [if_pos c,if_pos h,en,flowF_nil c]
    rfl
  · rw [if_neg c]
    by_cases h:hdP fs s.1 s.2 = []
    · have en:nxS fs s=(minL (chA fs s.1 s.2),s.2):=by unfold nxS; rw [if_neg c,if_pos h]
      rw [if_pos h,if_pos h,en]
      rfl
    · have en:nxS fs s=(minL (chA fs s.1 s.2),s.2+(minL (chA fs s.1 s.2)-s.1) / (shP fs (hdP fs s.1 s.2):Rat)):=by unfold nxS; rw [if_neg c,if_neg h]
      rw [if_neg h,if_neg h,en]
      rfl
theorem flowF_app (m:Nat):∀ (n k:Nat),flowF fs (n+m) (stS fs k).1 (stS fs k).2=flowF fs n (stS fs k).1 (stS fs k).2++flowF fs m (stS fs (k+n)).1 (stS fs (k+n)).2
  | 0,k=>by rw [Nat.zero_add]; rfl
  | n+1,k=>by
    rw [show n+1+m=n+m+1 by omega,flowF_emit,flowF_emit,flowF_app m n (k+1),List.append_assoc,show k+1+n=k+(n+1) by omega]
theorem flowF_snoc (n:Nat):flowF fs (n+1) 0 0=flowF fs n 0 0++emit fs n:=by
  have h:=flowF_app (fs:=fs) 1 n 0
  rw [Nat.zero_add] at h
  rw [show flowF fs (n+1) 0 0=flowF fs (n+1) (stS fs 0).1 (stS fs 0).2 from rfl,h,flowF_emit 0 n]
  rw [show flowF fs 0 (stS fs (n+1)).1 (stS fs (n+1)).2 = [] from rfl,List.append_nil]
  rfl
theorem putP_at {en:Int→Option Rat} {e:Rat} {w:Int}:∀ {ps:List (Nat×Rat)},((∃ p∈ps,(p.1:Int)=w)→putP en e ps w=some e)∧((¬ ∃ p∈ps,(p.1:Int)=w)→putP en e ps w=en w):=fun {ps}=>by
  have go:∀ (r:List (Nat×Rat)),(∀ p∈r,(p.1:Int)≠w)→∀ m:Int→Option Rat,putP m e r w=m w:=fun r=>by
    induction r with
    | nil=>intro _ m; rfl
    | cons p r ih =>
      intro h m
      show putP (setE m (p.1:Int) e) e r w = _
      rw [ih (fun x hx=>h x (List.mem_cons_of_mem _ hx))]
      unfold setE
      rw [if_neg (fun z=>h p (by simp) z.symm)]
  refine ⟨?_,fun h=>go ps (fun p hp z=>h ⟨p,hp,z⟩) en⟩
  have any:∀ (r:List (Nat×Rat)),∀ m:Int→Option Rat,m w=some e∨(∃ p∈r,(p.1:Int)=w)→putP m e r w=some e:=fun r=>by
    induction r with
    | nil =>
      intro m h
      rcases h with z | ⟨p,hp,_⟩
      · exact z
      · cases hp
    | cons p r ih =>
      intro m h
      refine ih (setE m (p.1:Int) e) ?_
      unfold setE
      by_cases c:w=(p.1:Int)
      · exact .inl (by rw [if_pos c])
      · rcases h with z | ⟨x,hx,z⟩
        · exact .inl (by rw [if_neg c]; exact z)
        · rcases List.mem_cons.mp hx with y | y
          · subst y; exact absurd z.symm c
          · exact .inr ⟨x,y,z⟩
  exact fun h=>any ps en (.inr h)
theorem ends_at {i k1 k2:Nat} {f:F4} (L:Lives fs i f k1 k2):∀ n,(n≤k1→endsF (flowF fs n 0 0) (i:Int)=none)∧(k1<n→endsF (flowF fs n 0 0) (i:Int)=some (stS fs (min n k2)).1)
  | 0=>⟨fun _=>rfl,fun h=>absurd h (Nat.not_lt_zero _)⟩
  | n+1=>by
    obtain ⟨ih1,ih2⟩:=ends_at L n
    have lt:=L.lt
    have step:endsF (flowF fs (n+1) 0 0) (i:Int)=if k1≤n∧n<k2 then some (stS fs (n+1)).1 else endsF (flowF fs n 0 0) (i:Int):=by
      rw [flowF_snoc]
      unfold emit
      by_cases he:hdP fs (stS fs n).1 (stS fs n).2 = []
      · rw [if_pos he,List.append_nil,if_neg]
        intro z
        have:=hdAt_mem.mp ((L.hd n).mpr z)
        rw [he] at this
        cases this
      · rw [if_neg he,endsF_snoc]
        show putP _ (stS fs (n+1)).1 (prt fs (stS fs n).1 (stS fs n).2) (i:Int) = _
        have iff:(∃ p∈prt fs (stS fs n).1 (stS fs n).2,(p.1:Int)=(i:Int))↔k1≤n∧n<k2:=by
          rw [← L.hd n,hdAt_mem]
          unfold prt
          constructor
          · rintro ⟨p,hp,e⟩
            obtain ⟨j,hj,rfl⟩:=List.mem_map.mp hp
            have : j = i := by have : (j : Int) = (i : Int) := e
                               omega
            rw [← this]; exact hj
          · intro h
            exact ⟨_,List.mem_map.mpr ⟨i,h,rfl⟩,rfl⟩
        by_cases c:k1≤n∧n<k2
        · rw [if_pos c]; exact putP_at.1 (iff.mpr c)
        · rw [if_neg c]; exact putP_at.2 fun z=>c (iff.mp z)
    rw [step]
    refine ⟨fun h=>?_,fun h=>?_⟩
    · rw [if_neg (by omega)]; exact ih1 (by omega)
    · by_cases c:n<k2
      · rw [if_pos ⟨by omega,c⟩,show min (n+1) k2=n+1 by omega]
      · rw [if_neg (by omega),ih2 (by omega),show min n k2=min (n+1) k2 by omega]
theorem steps_le (s1:∀ f∈fs,1≤f.2.2.2):∀ {k:Nat},chA fs (stS fs k).1 (stS fs k).2≠[]→k+mu fs (stS fs k).1 (stS fs k).2≤mu fs 0 0
  | 0,_=>by show 0+mu fs 0 0≤_; omega
  | k+1,h=>by
    rcases stS_turn s1 k with ⟨c,e⟩ | ⟨c,t⟩
    · rw [e] at h; exact absurd c h
    · have:=steps_le s1 c
      have:=turn_mu t
      omega
theorem Lives.le {i k1 k2 n:Nat} {f:F4} (s1:∀ f∈fs,1≤f.2.2.2) (ln:fs.length≤n) (L:Lives fs i f k1 k2):k2≤2*n+1:=by
  have lt:=L.lt
  have h:=(L.hd (k2-1)).mpr ⟨by omega,by omega⟩
  have:=steps_le s1 (hdAt_go h)
  have:=mu0 ln 0 0
  omega
end
structure Span (n:Nat) (qs:List Q4) (i:Nat) (k1 k2:Nat):Prop where
  ex:∃ f,(fsOf qs (Ti.nil.tags qs))[i]? = some f∧Lives (fsOf qs (Ti.nil.tags qs)) i f k1 k2
  en:endsF (flowF (fsOf qs (Ti.nil.tags qs)) (2*n+1) 0 0) (i:Int)=some (stS (fsOf qs (Ti.nil.tags qs)) k2).1
  be:∀ q,qs[i]? = some q→begF (aheadF (endsF (flowF (fsOf qs (Ti.nil.tags qs)) (2*n+1) 0 0)) 0 (fun _=>none) (qs.take i)) q=(stS (fsOf qs (Ti.nil.tags qs)) k1).1
def Rel (n:Nat) (qs:List Q4) (i:Nat) (w:Int):Prop :=
  ((Ti.nil.after (qs.take i)).en w=none∧aheadF (endsF (flowF (fsOf qs (Ti.nil.tags qs)) (2*n+1) 0 0)) 0 (fun _=>none) (qs.take i) w=none) ∨
  ∃ e k2,(Ti.nil.after (qs.take i)).en w=some e∧(stS (fsOf qs (Ti.nil.tags qs)) k2).2=e∧(∀ k,e≤(stS (fsOf qs (Ti.nil.tags qs)) k).2↔k2≤k)∧aheadF (endsF (flowF (fsOf qs (Ti.nil.tags qs)) (2*n+1) 0 0)) 0 (fun _=>none) (qs.take i) w=some (stS (fsOf qs (Ti.nil.tags qs)) k2).1
theorem Good.step {n:Nat} {M:Int} {a c:Nat} {qs:List Q4} (g:Good n M a c qs) {i:Nat} {q:Q4} (e:qs[i]? = some q) (rel:∀ w,Rel n qs i w):(∃ k1 k2,Span n qs i k1 k2)∧∀ w,Rel n qs (i+1) w:=by
  have hi:=(List.getElem?_eq_some_iff.mp e).1
  obtain ⟨D0,ok⟩:=fs_ok g.F g.ln g.pc g.pw
  have s1:=ok.s1
  have ln:(fsOf qs (Ti.nil.tags qs)).length≤n:=by rw [fsOf_len Ti.tags_len]; exact g.ln
  obtain ⟨D,r⟩:=g.run (i:=i) (by omega)
  have lt:=lat_to (s:=Ti.nil) (fun q h=>(g.pc q h).1) g.pw e
  obtain ⟨D',j,_,_,_,_,_,_,bf,_⟩:=r.come g.F (by have:=g.ln; omega) (g.pc q (List.mem_of_getElem? e)) lt
  have ht:(Ti.nil.tags qs)[i]? = some ((Ti.nil.after (qs.take i)).beg q,(Ti.nil.after (qs.take i)).fin q):=by
    have h1:((Ti.nil.tags qs).take (i+1))[i]? = (Ti.nil.tags qs)[i]?:=by rw [List.getElem?_take,if_pos (by omega)]
    rw [← h1,← tags_take,L2.take_succ_of e,Ti.tags_snoc]
    have l:(Ti.nil.tags (qs.take i)).length=i:=by rw [Ti.tags_len,List.length_take]; omega
    rw [List.getElem?_append_right (by omega),l,Nat.sub_self]
    rfl
  have hf:=fsOf_get e ht
  obtain ⟨kc,hkc⟩:=g.at_coming (i:=i+1) (by omega)
  have hkc:stS (fsOf qs (Ti.nil.tags qs)) kc=((q.1:Rat),(Ti.nil.after (qs.take i)).rv q):=by
    rw [hkc,L2.take_succ_of e,Ti.after_snoc]
    rfl
  have a0:((0:Int):Rat)≤(q.1:Rat):=Rat.intCast_le_intCast.mpr (g.pc q (List.mem_of_getElem? e)).1
  have a0:(0:Rat)≤(q.1:Rat):=a0
  have itk:(qs.take i).length=i:=by rw [List.length_take]; omega
  have e2:=aheadF_snoc (en:=endsF (flowF (fsOf qs (Ti.nil.tags qs)) (2*n+1) 0 0)) (i:=0) (ah:=fun _=>none) (l:=qs.take i) (q:=q)
  rw [itk,Nat.zero_add] at e2
  have ebeg:(Ti.nil.after (qs.take i)).beg q=max ((Ti.nil.after (qs.take i)).rv q) (((Ti.nil.after (qs.take i)).en q.2.1).getD ((Ti.nil.after (qs.take i)).rv q)):=rfl
  have rl:=rel q.2.1
  have born:∃ k1,hdAt (fsOf qs (Ti.nil.tags qs)) i (stS (fsOf qs (Ti.nil.tags qs)) k1)∧(∀ k,k<k1→¬ hdAt (fsOf qs (Ti.nil.tags qs)) i (stS (fsOf qs (Ti.nil.tags qs)) k))∧begF (aheadF (endsF (flowF (fsOf qs (Ti.nil.tags qs)) (2*n+1) 0 0)) 0 (fun _=>none) (qs.take i)) q=(stS (fsOf qs (Ti.nil.tags qs)) k1).1:=by
    have first:(Ti.nil.after (qs.take i)).beg q=(Ti.nil.after (qs.take i)).rv q→hdAt (fsOf qs (Ti.nil.tags qs)) i (stS (fsOf qs (Ti.nil.tags qs)) kc)∧∀ k,k<kc→¬ hdAt (fsOf qs (Ti.nil.tags qs)) i (stS (fsOf qs (Ti.nil.tags qs)) k):=fun eb=>by
      have hh:hdAt (fsOf qs (Ti.nil.tags qs)) i (stS (fsOf qs (Ti.nil.tags qs)) kc):=by
        refine ⟨_,hf,?_,?_,?_⟩
        · rw [hkc]; exact Rat.le_refl
        · rw [hkc]
          show (Ti.nil.after (qs.take i)).beg q≤(Ti.nil.after (qs.take i)).rv q
          grind
        · rw [hkc]
          show (Ti.nil.after (qs.take i)).rv q<(Ti.nil.after (qs.take i)).fin q
          grind
      refine ⟨hh,fun k hk z=>?_⟩
      have:=stS_lt s1 hk (hdAt_go hh)
      rw [hkc] at this
      obtain ⟨g',eg,z1,_⟩:=z
      rw [hf] at eg
      cases eg
      have z1:(q.1:Rat)≤(stS (fsOf qs (Ti.nil.tags qs)) k).1:=z1
      have this:(stS (fsOf qs (Ti.nil.tags qs)) k).1<(q.1:Rat):=this
      grind
    rcases rl with ⟨r1,r2⟩ | ⟨et,k2,r1,r2,r3,r4⟩
    · have eb:(Ti.nil.after (qs.take i)).beg q=(Ti.nil.after (qs.take i)).rv q:=by
        rw [ebeg,r1,Rat.max_def]
        simp
      obtain ⟨f1,f2⟩:=first eb
      refine ⟨kc,f1,f2,?_⟩
      unfold begF
      rw [r2,hkc,Rat.max_def]
      show (if (q.1:Rat)≤0 then (0:Rat) else (q.1:Rat))=(q.1:Rat)
      split <;> grind
    · by_cases c:et≤(Ti.nil.after (qs.take i)).rv q
      · have eb:(Ti.nil.after (qs.take i)).beg q=(Ti.nil.after (qs.take i)).rv q:=by
          rw [ebeg,r1,Rat.max_def]
          show (if (Ti.nil.after (qs.take i)).rv q≤et then et else (Ti.nil.after (qs.take i)).rv q) = _
          split <;> grind
        obtain ⟨f1,f2⟩:=first eb
        refine ⟨kc,f1,f2,?_⟩
        have hk:=(r3 kc).mp (by rw [hkc]; exact c)
        have le:=(stS_mono s1 hk).1
        rw [hkc] at le ⊢
        unfold begF
        rw [r4,Rat.max_def]
        show (if (q.1:Rat)≤(stS (fsOf qs (Ti.nil.tags qs)) k2).1 then (stS (fsOf qs (Ti.nil.tags qs)) k2).1 else (q.1:Rat))=(q.1:Rat)
        have le:(stS (fsOf qs (Ti.nil.tags qs)) k2).1≤(q.1:Rat):=le
        split <;> grind
      · have eb:(Ti.nil.after (qs.take i)).beg q=et:=by
          rw [ebeg,r1,Rat.max_def]
          show (if (Ti.nil.after (qs.take i)).rv q≤et then et else (Ti.nil.after (qs.take i)).rv q) = _
          split <;> grind
        have hk:kc<k2:=by
          by_cases z:k2≤kc
          · exfalso
            have:=(r3 kc).mpr z
            rw [hkc] at this
            exact c this
          · omega
        have le:=(stS_mono s1 (show kc≤k2 by omega)).1
        rw [hkc] at le
        have le:(q.1:Rat)≤(stS (fsOf qs (Ti.nil.tags qs)) k2).1:=le
        refine ⟨k2,⟨_,hf,le,?_,?_⟩,fun k hk2 z=>?_,?_⟩
        · rw [r2]
          show (Ti.nil.after (qs.take i)).beg q≤et
          rw [eb]; exact Rat.le_refl
        · rw [r2]
          show et<(Ti.nil.after (qs.take i)).fin q
          rw [← eb]; exact bf
        · obtain ⟨g',eg,_,z2,_⟩:=z
          rw [hf] at eg
          cases eg
          have z2:(Ti.nil.after (qs.take i)).beg q≤(stS (fsOf qs (Ti.nil.tags qs)) k).2:=z2
          rw [eb] at z2
          have:=(r3 k).mp z2
          omega
        · unfold begF
          rw [r4,Rat.max_def]
          show (if (q.1:Rat)≤(stS (fsOf qs (Ti.nil.tags qs)) k2).1 then (stS (fsOf qs (Ti.nil.tags qs)) k2).1 else (q.1:Rat)) = _
          rw [if_pos le]
  obtain ⟨k1,b1,b2,b3⟩:=born
  obtain ⟨k2,L⟩:=lives_of s1 hf b1 b2
  have lt2:=L.lt
  have le2:=L.le s1 ln
  have en:endsF (flowF (fsOf qs (Ti.nil.tags qs)) (2*n+1) 0 0) (i:Int)=some (stS (fsOf qs (Ti.nil.tags qs)) k2).1:=by
    have:=(ends_at L (2*n+1)).2 (by omega)
    rw [show min (2*n+1) k2=k2 by omega] at this
    exact this
  refine ⟨⟨k1,k2,⟨_,hf,L⟩,en,fun q' e'=>?_⟩,fun w=>?_⟩
  · rw [e] at e'
    cases e'
    exact b3
  · unfold Rel
    rw [L2.take_succ_of e,Ti.after_snoc,e2,en]
    show ((setE (Ti.nil.after (qs.take i)).en q.2.1 ((Ti.nil.after (qs.take i)).fin q) w=none∧_)∨_)
    by_cases c:w=q.2.1
    · refine .inr ⟨(Ti.nil.after (qs.take i)).fin q,k2,?_,L.en,L.pa,?_⟩
      · show setE (Ti.nil.after (qs.take i)).en q.2.1 ((Ti.nil.after (qs.take i)).fin q) w = _
        unfold setE
        rw [if_pos c]
      · unfold setE
        rw [if_pos c]
        rfl
    · have h1:setE (Ti.nil.after (qs.take i)).en q.2.1 ((Ti.nil.after (qs.take i)).fin q) w=(Ti.nil.after (qs.take i)).en w:=by unfold setE; rw [if_neg c]
      rcases rel w with ⟨r1,r2⟩ | ⟨et,k',r1,r2,r3,r4⟩
      · refine .inl ⟨by rw [h1]; exact r1,?_⟩
        unfold setE
        rw [if_neg c]; exact r2
      · refine .inr ⟨et,k',by show setE _ _ _ w = _; rw [h1]; exact r1,r2,r3,?_⟩
        unfold setE
        rw [if_neg c]; exact r4
theorem Good.rel {n:Nat} {M:Int} {a c:Nat} {qs:List Q4} (g:Good n M a c qs):∀ {i:Nat},i≤qs.length→∀ w,Rel n qs i w
  | 0,_,w=>.inl ⟨rfl,rfl⟩
  | i+1,hi,w=>(g.step (List.getElem?_eq_getElem (show i<qs.length by omega)) (g.rel (i:=i) (by omega))).2 w
theorem Good.span {n:Nat} {M:Int} {a c:Nat} {qs:List Q4} (g:Good n M a c qs) {i:Nat} (hi:i<qs.length):∃ k1 k2,Span n qs i k1 k2:=(g.step (List.getElem?_eq_getElem hi) (g.rel (i:=i) (by omega))).1
end Sw
namespace Sw
open L2
end Sw
namespace L2
open PySem PySem.Spec PyProof.Rows
def Itz (K:PySem.W.Frag) (a b:Addr):It :=
  ⟨fun i H=>∃ xs ys x y,SqL K H a xs∧SqL K H b ys∧xs[i]? = some x∧ys[i]? = some y,
   fun i H v H'=>∃ p x y,v = .ref p∧H p=none∧(∀ xs,SqL K H a xs→xs[i]? = some x)∧(∀ ys,SqL K H b ys→ys[i]? = some y)∧H'=upd H p (.tup [x,y]),
   fun i H=>∃ xs ys,SqL K H a xs∧SqL K H b ys∧(xs.length≤i∨ys.length≤i)⟩
theorem turn_zip {P:Program} {w:World} {K:PySem.W.Frag} {elts:List Expr} {x1} {pos:Pos} (a b z TI TO i1 i2:Addr) (D:ZipApart z TI TO i1 i2 a b) :
    Turn P w K (.Tuple elts x1 pos) (Itz K a b) [z,TI,TO,i1,i2] z (fun i h=>IsZip h z TI TO .none∧IsPair h TI (.ref i1) (.ref i2)∧(∃ c d,IsPair h TO c d)∧h.IsListIter i1 a i∧h.IsListIter i2 b i) where
  mem:=by simp
  obj:=fun i h st c hc=>by
    obtain ⟨h1,h2,⟨c1,d1,h3⟩,h4,h5⟩:=st
    simp only [List.mem_cons,List.not_mem_nil,or_false] at hc
    rcases hc with rfl | rfl | rfl | rfl | rfl
    · exact ⟨_,h1,fun v y=>by cases y⟩
    · exact ⟨_,h2,fun v y=>by cases y⟩
    · exact ⟨_,h3,fun v y=>by cases y⟩
    · obtain ⟨o,e,_,d⟩:=h4
      exact ⟨o,e,fun v y=>by rw [d] at y; cases y⟩
    · obtain ⟨o,e,_,d⟩:=h5
      exact ⟨o,e,fun v y=>by rw [d] at y; cases y⟩
  keep:=fun i h h' st k=>by
    obtain ⟨h1,h2,⟨c1,d1,h3⟩,h4,h5⟩:=st
    exact ⟨k z (by simp) _ h1,k TI (by simp) _ h2,⟨c1,d1,k TO (by simp) _ h3⟩,h4.at fun o q=>k i1 (by simp) o q,h5.at fun o q=>k i2 (by simp) o q⟩
  item:=by
    intro X hP hw hK hc i pins s σ H E I hf st hg
    subst hP hw hK
    obtain ⟨h1,h2,⟨c1,d1,h3⟩,h4,h5⟩:=st
    obtain ⟨xs,ys,x,y,hq1,hq2,hx,hy⟩:=hg
    obtain ⟨its1,rv1,p1,hz1⟩:=I.list hq1
    obtain ⟨its2,rv2,p2,hz2⟩:=I.list hq2
    obtain ⟨u1,hu1,ru1⟩:=rv1.get hx
    obtain ⟨u2,hu2,ru2⟩:=rv2.get hy
    have hfr:∀ c,c∈[z,TI,TO,i1,i2]→H c=none:=fun c h=>(hf c h).1
    have hlt:∀ c,c∈[z,TI,TO,i1,i2]→c<s.heap.objs.size:=fun c h=>by
      simp only [List.mem_cons,List.not_mem_nil,or_false] at h
      rcases h with rfl | rfl | rfl | rfl | rfl
      · exact Heap.lt_size h1
      · exact Heap.lt_size h2
      · exact Heap.lt_size h3
      · obtain ⟨o,q,_⟩:=id h4; exact Heap.lt_size q
      · obtain ⟨o,q,_⟩:=id h5; exact Heap.lt_size q
    refine wpAny_pyNext_zip_item D h1 h2 h3 h4 h5 p1.isList p2.isList (x:=u1) (y:=u2) (by simpa using hu1) (by simpa using hu2) fun hp' hz' hTO' hi1' hi2' hT' hsz hk=>?_
    refine ⟨.ref s.heap.objs.size,rfl,wpAny_letOwnedTupleGo_zip hz' fun hp2 hz2' hs2=>?_⟩
    have hs2':Heap.SameBut z hp' hp2:=hs2
    have kz:∀ c o,c≠z→hp'.get? c=some o→hp2.get? c=some o:=fun c o n q=>(hs2'.2 c n).trans q
    have fresh:H s.heap.objs.size=none:=I.hok.fresh (Nat.le_refl _)
    have nsz:∀ c,c∈[z,TI,TO,i1,i2]→s.heap.objs.size≠c:=fun c h=>Nat.ne_of_gt (hlt c h)
    have htup:hp2.get? s.heap.objs.size=some { cls:=.type "tuple", data:=.seq #[u1,u2] }:=kz _ _ (nsz z (by simp)) hT'
    have k2:∀ c o,c ∉ [z,TI,TO,i1,i2]→s.heap.get? c=some o→hp2.get? c=some o:=fun c o n q=>by
      simp only [List.mem_cons,List.not_mem_nil,or_false,not_or] at n
      exact kz c o n.1 (hk c o n.1 n.2.2.1 n.2.2.2.1 n.2.2.2.2 q)
    have nit:∀ c v,H c=some v→c ∉ [z,TI,TO,i1,i2]:=fun c v q h=>by rw [hfr c h] at q; cases q
    have up:∀ c o,H c=some o→(upd H s.heap.objs.size (.tup [x,y])) c=some o:=fun c o q=>by rw [upd_ne (ne_of_none q fresh)]; exact q
    have I2:Inv X pins σ (upd H s.heap.objs.size (.tup [x,y])) { s with heap:=hp2 }:=by
      refine I.step (t':=s.toks) (g':=s.gens) (d':=s.drawn) (ch:=[z,TI,TO,i1,i2]) (fun c hc=>?_) (fun c o _ _ hc q _=>k2 c o hc q)
        (fun c o _ _ hc q _=>⟨o.slots,k2 c o hc q⟩) (fun c o _ q n=>by rw [upd_ne (Nat.ne_of_lt (Heap.lt_size q))]; exact n)
        (fun c o hc q=>⟨o,k2 c o hc q⟩) (fun c zs q=>up c _ q) (fun c ob v q=>up c _ q) (fun c ps q=>⟨#[],by rw [up c _ q]; simp⟩) (fun m hm=>?_) (fun c v q=>?_) I.bare
      · obtain ⟨f0,f1,f2,f3,f4,f5⟩:=hf c hc
        exact ⟨f3,f1,f4,f5⟩
      · obtain ⟨o,es,ep,ho,r⟩:=hm
        refine ⟨o,es,ep,k2 _ o (fun h=>?_) ho,r⟩
        exact (hf _ h).2.1 rfl
      · by_cases hb:c=s.heap.objs.size
        · subst hb
          rw [upd_same] at q
          cases q
          exact ⟨by show 2≤sizeLine; decide,[u1,u2],.cons ru1 (.cons ru2 .nil),_,htup,rfl,_,rfl⟩
        · rw [upd_ne hb] at q
          refine (I.hok c v q).stay (fun d v' hd q'=>?_) (fun d y=>up d _ y) fun d zs y=>up d _ y
          refine k2 d v' ?_ q'
          rcases hd with y | y
          · rw [y]; exact nit c v q
          · exact nit d _ y
    refine ⟨.ref s.heap.objs.size,_,I2,rfl,⟨s.heap.objs.size,x,y,rfl,fresh,fun zs hz=>by rw [I.list_inj hz hq1]; exact hx,fun zs hz=>by rw [I.list_inj hz hq2]; exact hy,rfl⟩,⟨hz2',kz _ _ D.TIz (hk _ _ D.TIz D.TITO D.TIi1 D.TIi2 h2),⟨u1,u2,kz _ _ D.TOz hTO'⟩,hi1'.at fun o q=>kz _ _ D.i1z q,hi2'.at fun o q=>kz _ _ D.i2z q⟩,fun c hc=>?_⟩
    rw [upd_ne (nsz c hc).symm]
    exact hfr c hc
  done:=by
    intro X hP hw hK hc i pins s σ H E I hf st hg
    subst hP hw hK
    obtain ⟨h1,h2,⟨c1,d1,h3⟩,h4,h5⟩:=st
    obtain ⟨xs,ys,hq1,hq2,hx⟩:=hg
    obtain ⟨its1,rv1,p1,hz1⟩:=I.list hq1
    obtain ⟨its2,rv2,p2,hz2⟩:=I.list hq2
    have l1:=rv1.length
    have l2:=rv2.length
    refine wpAny_pyNext_zip_end (I.ok.hd hc) D h1 h2 h3 h4 h5 p1.isList p2.isList ?_ fun hp' hk=>⟨rfl,?_⟩
    · rcases hx with h | h
      · exact .inl (by simp; omega)
      · exact .inr (by simp; omega)
    have hfr:∀ c,c∈[z,TI,TO,i1,i2]→H c=none:=fun c h=>(hf c h).1
    have k2:∀ c o,c ∉ [z,TI,TO,i1,i2]→s.heap.get? c=some o→hp'.get? c=some o:=fun c o n q=>by
      simp only [List.mem_cons,List.not_mem_nil,or_false,not_or] at n
      exact hk c o n.1 n.2.2.1 n.2.2.2.1 n.2.2.2.2 q
    have nit:∀ c v,H c=some v→c ∉ [z,TI,TO,i1,i2]:=fun c v q h=>by rw [hfr c h] at q; cases q
    refine I.step (t':=s.toks) (g':=s.gens) (d':=s.drawn) (ch:=[z,TI,TO,i1,i2]) (fun c hc=>?_) (fun c o _ _ hc q _=>k2 c o hc q)
      (fun c o _ _ hc q _=>⟨o.slots,k2 c o hc q⟩) (fun c o _ q n=>n)
      (fun c o hc q=>⟨o,k2 c o hc q⟩) (fun c zs q=>q) (fun c ob v q=>q) (fun c ps q=>⟨#[],by simpa using q⟩) (fun m hm=>?_) (fun c v q=>?_) I.bare
    · obtain ⟨f0,f1,f2,f3,f4,f5⟩:=hf c hc
      exact ⟨f3,f1,f4,f5⟩
    · obtain ⟨o,es,ep,ho,r⟩:=hm
      refine ⟨o,es,ep,k2 _ o (fun h=>?_) ho,r⟩
      exact (hf _ h).2.1 rfl
    · refine (I.hok c v q).stay (fun d v' hd q'=>?_) (fun d y=>y) fun d zs y=>y
      refine k2 d v' ?_ q'
      rcases hd with y | y
      · rw [y]; exact nit c v q
      · exact nit d _ y
  self:=fun _ _ _ _ _ st h=>by
    obtain ⟨h1,_⟩:=st
    exact wpAny_pyIter_zip h1 h
section
variable {X:Cx}
def iZip (K:PySem.W.Frag) (ta:TA):TI:=fun σ H R=>ta σ H fun vs H1=>∃ a b,vs = [.ref a,.ref b]∧(∃ xs,SqL K H1 a xs)∧(∃ ys,SqL K H1 b ys)∧R (Itz K a b) H1
theorem pi_zip {l m:Expr} {ta:TA} {p pos tpos:Pos} {elts:List Expr} {x1} (hg:Gl X "zip") (hm:X.mg "zip" = none) (ha:PA X [l,m] ta) (hs:starEach [l,m] X.env=(false,eval l X.env) :: starEach [m] X.env:=by rfl) (hpl:(backTo pos (starEach [m] X.env)).any (·.1)=false:=by rfl) :
    PI X (.Tuple elts x1 tpos) (.Call (.Name "zip" p) [l,m] [] pos) (iZip X.K ta):=by
  intro pins s σ H R I h
  refine Call_ (ld_blt I hg hm boot_zip (PyProof.Rows.callWith_type1 (thn (ha pos pins s σ H _ I h) fun us s1 ⟨vs,H1,I1,r1,q1⟩=>?_) hs hpl))
  obtain ⟨a,b,rfl,⟨xs,hq1⟩,⟨ys,hq2⟩,q⟩:=q1
  obtain ⟨u1,u2,rfl,r,r2⟩:=Vals.two r1
  cases r
  cases r2
  obtain ⟨its1,rv1,p1,hz1⟩:=I1.list hq1
  obtain ⟨its2,rv2,p2,hz2⟩:=I1.list hq2
  have la:a<s1.heap.objs.size:=by obtain ⟨o,n,e,_⟩:=p1; exact Heap.lt_size e
  have lb:b<s1.heap.objs.size:=by obtain ⟨o,n,e,_⟩:=p2; exact Heap.lt_size e
  refine call_zip_2 p1.isList p2.isList fun h' hz hTI hTO hi1 hi2 hsz hk=>?_
  refine wpAny_pyIter_zip hz ?_
  refine ⟨s1.heap.objs.size+4,[s1.heap.objs.size+4,s1.heap.objs.size+2,s1.heap.objs.size+3,s1.heap.objs.size,s1.heap.objs.size+1],_,_,H1,rfl,I1.kept (t':=s1.toks) hk,turn_zip a b _ _ _ _ _ (PyProof.Rows.zipApart_new la lb),⟨hz,hTI,⟨_,_,hTO⟩,hi1,hi2⟩,fun c hc=>?_,q⟩
  have le:s1.heap.objs.size≤c:=by
    simp only [List.mem_cons,List.not_mem_nil,or_false] at hc
    rcases hc with rfl | rfl | rfl | rfl | rfl
    · exact Nat.le_add_right _ _
    · exact Nat.le_add_right _ _
    · exact Nat.le_add_right _ _
    · exact Nat.le_refl _
    · exact Nat.le_add_right _ _
  exact I1.fpOk le (I1.hok.fresh le)
theorem pi_zipK (K:PySem.W.Frag) (h:X.K=K) {l m:Expr} {ta:TA} {p pos tpos:Pos} {elts:List Expr} {x1} (hg:Gl X "zip") (hm:X.mg "zip" = none) (ha:PA X [l,m] ta) (hs:starEach [l,m] X.env=(false,eval l X.env) :: starEach [m] X.env:=by rfl) (hpl:(backTo pos (starEach [m] X.env)).any (·.1)=false:=by rfl) :
    PI X (.Tuple elts x1 tpos) (.Call (.Name "zip" p) [l,m] [] pos) (iZip K ta):=h ▸ pi_zip hg hm ha hs hpl
end
theorem for_zip {K:PySem.W.Frag} {a b:Addr} {xs ys:List V} {g:TG} {tb:TS} {D:Ends} {σ:St} {H:Hp} (Pv:Nat→St→Hp→Prop) (h0:Pv 0 σ H) (hn:xs.length≤ys.length) (hl:∀ i σ H,i≤xs.length→Pv i σ H→SqL K H a xs∧SqL K H b ys)
    (hs:∀ i x y σ H p,xs[i]? = some x→ys[i]? = some y→Pv i σ H→H p=none→g (.ref p) σ (upd H p (.tup [x,y])) fun σ2 H2=>tb { D with nx:=Pv (i+1),ct:=Pv (i+1),bk:=D.nx } σ2 H2) (hd:∀ σ H,Pv xs.length σ H→D.nx σ H) :
    ∃ W:Nat→Nat→St→Hp→Prop,(∃ m,W 0 m σ H)∧∀ i m σ H,W i m σ H →
      ((Itz K a b).stop i H∧D.nx σ H)∨((Itz K a b).go i H∧∃ N:St→Hp→Prop,(∀ σ' H',N σ' H'→∃ m',m' < m∧W (i+1) m' σ' H')∧∀ x H',(Itz K a b).yld i H x H'→g x σ H' fun σ2 H2=>tb { D with nx:=N,ct:=N,bk:=D.nx } σ2 H2):=by
  refine ⟨fun i m σ H=>m=xs.length-i∧i≤xs.length∧Pv i σ H,⟨xs.length,by simp,Nat.zero_le _,h0⟩,?_⟩
  rintro i m σ H ⟨rfl,hi,p⟩
  obtain ⟨q1,q2⟩:=hl i σ H hi p
  by_cases hlt:i<xs.length
  · refine .inr ⟨⟨xs,ys,xs[i],ys[i]'(by omega),q1,q2,by simp [hlt],List.getElem?_eq_getElem _⟩,Pv (i+1),fun σ' H' p'=>⟨xs.length-(i+1),by omega,rfl,hlt,p'⟩,fun v H' z=>?_⟩
    obtain ⟨c,x,y,rfl,hc,hx,hy,rfl⟩:=z
    exact hs i x y σ H c (hx xs q1) (hy ys q2) p hc
  · have e:i=xs.length:=by omega
    subst e
    exact .inl ⟨⟨xs,ys,q1,q2,.inl (Nat.le_refl _)⟩,hd σ H p⟩
end L2
namespace Sw
open L2
section
variable {fs:List F4}
end
theorem Good.coming {n:Nat} {M:Int} {a c:Nat} {qs:List Q4} (g:Good n M a c qs) {i:Nat} {q:Q4} (e:qs[i]? = some q):∃ k,stS (fsOf qs (Ti.nil.tags qs)) k=((q.1:Rat),(Ti.nil.after (qs.take i)).rv q):=by
  have hi:=(List.getElem?_eq_some_iff.mp e).1
  obtain ⟨k,hk⟩:=g.at_coming (i:=i+1) (by omega)
  exact ⟨k,by rw [hk,L2.take_succ_of e,Ti.after_snoc]; rfl⟩
theorem spansF_take {en:Int→Option Rat}:∀ {l:List Q4} {i j:Nat} {ah:Int→Option Rat},spansF en i ah (l.take j)=(spansF en i ah l).take j
  | _,_,0,_=>by simp [spansF]
  | [],_,_ + 1,_=>rfl
  | q :: r,i,j+1,ah=>by
    show _ :: spansF en (i+1) _ (r.take j) = _
    rw [spansF_take]
    rfl
theorem Good.both {n:Nat} {M:Int} {a c:Nat} {qs:List Q4} (g:Good n M a c qs) {i:Nat} {q:Q4} (e:qs[i]? = some q) :
    ∃ (t u:Rat×Rat) (k1 k2:Nat),(Ti.nil.tags qs)[i]? = some t∧(spansF (endsF (flowF (fsOf qs (Ti.nil.tags qs)) (2*n+1) 0 0)) 0 (fun _=>none) qs)[i]? = some u∧(fsOf qs (Ti.nil.tags qs))[i]? = some (q.1,t.1,t.2,q.2.2.2)∧Lives (fsOf qs (Ti.nil.tags qs)) i (q.1,t.1,t.2,q.2.2.2) k1 k2∧u=((stS (fsOf qs (Ti.nil.tags qs)) k1).1,(stS (fsOf qs (Ti.nil.tags qs)) k2).1):=by
  have hi:=(List.getElem?_eq_some_iff.mp e).1
  obtain ⟨k1,k2,S⟩:=g.span hi
  obtain ⟨f,hf,L⟩:=S.ex
  have htl:i<(Ti.nil.tags qs).length:=by rw [Ti.tags_len]; exact hi
  have ht:(Ti.nil.tags qs)[i]? = some ((Ti.nil.tags qs)[i]'htl):=List.getElem?_eq_getElem _
  have hf':=fsOf_get e ht
  rw [hf'] at hf
  cases hf
  have itk:(qs.take i).length=i:=by rw [List.length_take]; omega
  have e1:=spansF_snoc (en:=endsF (flowF (fsOf qs (Ti.nil.tags qs)) (2*n+1) 0 0)) (i:=0) (ah:=fun _=>none) (l:=qs.take i) (q:=q)
  rw [itk,Nat.zero_add,S.en,S.be q e] at e1
  refine ⟨_,_,k1,k2,ht,?_,hf',L,rfl⟩
  have h1:((spansF (endsF (flowF (fsOf qs (Ti.nil.tags qs)) (2*n+1) 0 0)) 0 (fun _=>none) qs).take (i+1))[i]? = (spansF (endsF (flowF (fsOf qs (Ti.nil.tags qs)) (2*n+1) 0 0)) 0 (fun _=>none) qs)[i]?:=by rw [List.getElem?_take,if_pos (by omega)]
  rw [← h1,← spansF_take,L2.take_succ_of e,e1]
  have l0:(spansF (endsF (flowF (fsOf qs (Ti.nil.tags qs)) (2*n+1) 0 0)) 0 (fun _=>none) (qs.take i)).length=i:=by rw [spansF_len,itk]
  rw [List.getElem?_append_right (by omega),l0,Nat.sub_self]
  rfl
theorem pw_le {qs:List Q4} (h:qs.Pairwise (fun a b=>a.1≤b.1)) {i j:Nat} {p q:Q4} (hij:j<i) (ei:qs[i]? = some q) (ej:qs[j]? = some p):p.1≤q.1:=by
  obtain ⟨hi,rfl⟩:=List.getElem?_eq_some_iff.mp ei
  obtain ⟨hj,rfl⟩:=List.getElem?_eq_some_iff.mp ej
  exact List.pairwise_iff_getElem.mp h j i hj hi hij
end Sw
namespace Sw
open L2
section
variable {fs:List F4}
def ms (fs:List F4) (k:Nat) (t:Rat):Rat:=if hdP fs (stS fs k).1 (stS fs k).2 = [] then (stS fs k).2 else (stS fs k).2+(t-(stS fs k).1) / (shP fs (hdP fs (stS fs k).1 (stS fs k).2):Rat)
theorem nx_eq {k:Nat} (h:chA fs (stS fs k).1 (stS fs k).2≠[]):(stS fs (k+1)).1=minL (chA fs (stS fs k).1 (stS fs k).2):=by
  show (nxS fs (stS fs k)).1 = _
  unfold nxS
  rw [if_neg h]
  split <;> rfl
theorem ms_nx {k:Nat} (h:chA fs (stS fs k).1 (stS fs k).2≠[]):ms fs k (stS fs (k+1)).1=(stS fs (k+1)).2:=by
  have e:stS fs (k+1)=nxS fs (stS fs k):=rfl
  unfold ms
  rw [e]
  unfold nxS
  rw [if_neg h]
  split <;> rfl
theorem div_mono {S x y:Rat} (S0:0<S) (h:x≤y):x / S≤y / S:=by
  have:¬ y / S<x / S:=by
    rw [Rat.div_lt_iff S0]
    have : x / S * S = x := by have : S ≠ 0 := by grind
                               grind
    rw [this]; grind
  grind
theorem div_lt {S x y:Rat} (S0:0<S) (h:x<y):x / S<y / S:=by
  rw [Rat.div_lt_iff S0]
  have : y / S * S = y := by have : S ≠ 0 := by grind
                             grind
  rw [this]; exact h
theorem nx_le {k:Nat} {x:Rat} (h:x∈chA fs (stS fs k).1 (stS fs k).2):(stS fs (k+1)).1≤x:=by
  rw [nx_eq (fun z=>by rw [z] at h; cases h)]
  exact minL_le h
theorem ma_of_mo (s1:∀ f∈fs,1≤f.2.2.2) {j k:Nat} (h:(stS fs j).1≤(stS fs k).1):(stS fs j).2≤(stS fs k).2:=by
  by_cases c:j≤k
  · exact (stS_mono s1 c).2
  · rcases stS_turn s1 k with ⟨z,_⟩ | ⟨_,t⟩
    · rw [stS_stay z (show k≤j by omega)]; exact Rat.le_refl
    · exfalso
      have:=t.gt
      have:=(stS_mono s1 (show k+1≤j by omega)).1
      grind
def dn (f:F4) (m:Rat):Rat:=max f.2.1 (min m f.2.2.1)-f.2.1
theorem dn_out {f:F4} {m:Rat} (b:f.2.1≤f.2.2.1) (h:f.2.2.1≤m):dn f m=f.2.2.1-f.2.1:=by
  unfold dn
  rw [Rat.max_def,Rat.min_def]
  grind
theorem dn_in {f:F4} {m:Rat} (b:f.2.1≤m) (h:m≤f.2.2.1):dn f m=m-f.2.1:=by
  unfold dn
  rw [Rat.max_def,Rat.min_def]
  grind
theorem dn_no {f:F4} {m:Rat} (h:m≤f.2.1):dn f m = 0:=by
  unfold dn
  rw [Rat.max_def,Rat.min_def]
  grind
end
structure Run (fs:List F4) (w:Nat→Int):Prop where
  s1:∀ f∈fs,1≤f.2.2.2
  live:∀ (i:Nat) (f:F4),fs[i]? = some f→∃ k1 k2,Lives fs i f k1 k2
  bt:∀ (i:Nat) (f:F4),fs[i]? = some f→f.2.1<f.2.2.1
  cm:∀ (i:Nat) (f:F4),fs[i]? = some f→∃ k,(stS fs k).1=(f.1:Rat)∧(stS fs k).2≤f.2.1∧((stS fs k).2=f.2.1∨∃ (j:Nat) (g:F4),j<i∧w j=w i∧fs[j]? = some g∧g.2.2.1=f.2.1)
  pr:∀ (i j:Nat) (f g:F4),j<i→w j=w i→fs[i]? = some f→fs[j]? = some g→g.2.2.1≤f.2.1
  so:∀ (i j:Nat) (f g:F4),j<i→fs[i]? = some f→fs[j]? = some g→g.1≤f.1
section
variable {fs:List F4} {w:Nat→Int}
theorem Run.born (R:Run fs w) {i k1 k2:Nat} {f:F4} (hf:fs[i]? = some f) (L:Lives fs i f k1 k2):(stS fs k1).2=f.2.1∧((stS fs k1).1=(f.1:Rat)∨∃ (j:Nat) (g:F4) (l1 l2:Nat),j<i∧w j=w i∧fs[j]? = some g∧Lives fs j g l1 l2∧k1≤l2):=by
  have s1:=R.s1
  have lt:=L.lt
  have h1:=(L.hd k1).mpr ⟨Nat.le_refl _,lt⟩
  have go1:=hdAt_go h1
  obtain ⟨g1,e1,a1,a2,a3⟩:=h1
  rw [hf] at e1
  cases e1
  have bt:=R.bt i f hf
  obtain ⟨kc,c1,c2,c3⟩:=R.cm i f hf
  rcases c3 with c3 | ⟨j,g,hj,hw,hg,eg⟩
  · have hk:hdAt fs i (stS fs kc):=⟨f,hf,by rw [c1]; exact Rat.le_refl,by rw [c3]; exact Rat.le_refl,by rw [c3]; exact bt⟩
    have:=((L.hd kc).mp hk).1
    have:k1=kc:=by
      by_cases z:k1=kc
      · exact z
      · exfalso
        have:=stS_lt s1 (show k1<kc by omega) (hdAt_go hk)
        grind
    subst this
    exact ⟨c3,.inl c1⟩
  · obtain ⟨l1,l2,M⟩:=R.live j g hg
    have en:=M.en
    by_cases z:g.2.2.1≤(stS fs kc).2
    · have c3:(stS fs kc).2=f.2.1:=by grind
      have hk:hdAt fs i (stS fs kc):=⟨f,hf,by rw [c1]; exact Rat.le_refl,by rw [c3]; exact Rat.le_refl,by rw [c3]; exact bt⟩
      have:=((L.hd kc).mp hk).1
      have:k1=kc:=by
        by_cases z:k1=kc
        · exact z
        · exfalso
          have:=stS_lt s1 (show k1<kc by omega) (hdAt_go hk)
          grind
      subst this
      exact ⟨c3,.inl c1⟩
    · have hk:kc<l2:=by
        by_cases y:l2≤kc
        · exact absurd ((M.pa kc).mpr y) z
        · omega
      have mo:=(stS_mono s1 (show kc≤l2 by omega)).1
      have hh:hdAt fs i (stS fs l2):=⟨f,hf,by rw [← c1]; exact mo,by rw [en,eg]; exact Rat.le_refl,by rw [en,eg]; exact bt⟩
      have le:=((L.hd l2).mp hh).1
      have:=(stS_mono s1 le).2
      exact ⟨by grind,.inr ⟨j,g,l1,l2,hj,hw,hg,M,le⟩⟩
theorem Run.head (R:Run fs w) {k:Nat}:∀ {p:Nat} {f:F4},fs[p]? = some f→(f.1:Rat)≤(stS fs k).1→(stS fs k).2<f.2.2.1→∃ q,hdAt fs q (stS fs k)∧w q=w p:=fun {p}=>by
  induction p using Nat.strongRecOn with
  | _ p ih =>
    intro f hf h1 h2
    by_cases c:f.2.1≤(stS fs k).2
    · exact ⟨p,⟨f,hf,h1,c,h2⟩,rfl⟩
    · obtain ⟨kc,c1,c2,c3⟩:=R.cm p f hf
      have:=ma_of_mo R.s1 (show (stS fs kc).1≤(stS fs k).1 by rw [c1]; exact h1)
      rcases c3 with c3 | ⟨j,g,hj,hw,hg,eg⟩
      · exfalso; grind
      · have so:(g.1:Rat)≤(f.1:Rat):=Rat.intCast_le_intCast.mpr (R.so p j f g hj hf hg)
        obtain ⟨q,q1,q2⟩:=ih j hj hg (by grind) (by grind)
        exact ⟨q,q1,by rw [q2,hw]⟩
end
end Sw
namespace Sw
open L2
section
variable {fs fs':List F4} {w w':Nat→Int} {κ:Nat→Nat}
theorem Run.b0 (R:Run fs w) {i:Nat} {f:F4} (hf:fs[i]? = some f):0≤f.2.1:=by
  obtain ⟨k1,k2,L⟩:=R.live i f hf
  rw [← (R.born hf L).1]
  exact (stS_mono R.s1 (Nat.zero_le k1)).2
end
end Sw
namespace Sw
open L2
def whoAt (qs:List Q4) (i:Nat):Int:=((qs[i]?).map fun q=>q.2.1).getD 0
theorem whoAt_of {qs:List Q4} {i:Nat} {q:Q4} (e:qs[i]? = some q):whoAt qs i=q.2.1:=by unfold whoAt; rw [e]; rfl
theorem tag_at {qs:List Q4} {i:Nat} {q:Q4} (e:qs[i]? = some q):(Ti.nil.tags qs)[i]? = some ((Ti.nil.after (qs.take i)).beg q,(Ti.nil.after (qs.take i)).fin q):=by
  have hi:=(List.getElem?_eq_some_iff.mp e).1
  have h1:((Ti.nil.tags qs).take (i+1))[i]? = (Ti.nil.tags qs)[i]?:=by rw [List.getElem?_take,if_pos (by omega)]
  have l0:(Ti.nil.tags (qs.take i)).length=i:=by rw [Ti.tags_len,List.length_take]; omega
  rw [← h1,← tags_take,L2.take_succ_of e,Ti.tags_snoc,List.getElem?_append_right (by omega),l0,Nat.sub_self]
  rfl
theorem len_pos {M:Int} {q:Q4} (h:PcOk M q):(0:Rat)<(q.2.2.1:Rat) / (q.2.2.2:Rat):=by
  obtain ⟨_,_,h1,_,h2,_⟩:=h
  have:=div_lt (q_cast_pos (show 0<q.2.2.2 by omega)) (q_cast_pos (show 0<q.2.2.1 by omega))
  have e:(0:Rat) / (q.2.2.2:Rat) = 0:=by grind
  rw [e] at this
  exact this
theorem beg_ge (s:Ti) (q:Q4):s.rv q≤s.beg q∧∀ e,s.en q.2.1=some e→e≤s.beg q:=by
  unfold Ti.beg begOn
  refine ⟨?_,fun e h=>?_⟩
  · rw [Rat.max_def]; split <;> grind
  · rw [h,Option.getD_some,Rat.max_def]; split <;> grind
theorem beg_is (s:Ti) (q:Q4):s.beg q=s.rv q∨s.en q.2.1=some (s.beg q):=by
  unfold Ti.beg begOn
  cases h:s.en q.2.1 with
  | none=>left; rw [Option.getD_none,Rat.max_def]; split <;> rfl
  | some e =>
    rw [Option.getD_some,Rat.max_def]
    split
    · right; rfl
    · left; rfl
theorem Good.en_at {n:Nat} {M:Int} {a c:Nat} {qs:List Q4} (g:Good n M a c qs):∀ {i:Nat},i≤qs.length→∀ w:Int,
    (∀ e,(Ti.nil.after (qs.take i)).en w=some e→∃ (j:Nat) (t:Rat×Rat),j<i∧whoAt qs j=w∧(Ti.nil.tags qs)[j]? = some t∧t.2=e) ∧
    ∀ (j:Nat) (t:Rat×Rat),j<i→whoAt qs j=w→(Ti.nil.tags qs)[j]? = some t→∃ e,(Ti.nil.after (qs.take i)).en w=some e∧t.2≤e
  | 0,_,w=>⟨(fun e h=>by cases h),fun j t h=>absurd h (Nat.not_lt_zero _)⟩
  | i+1,hi,w=>by
    have e:qs[i]? = some (qs[i]'(by omega)):=List.getElem?_eq_getElem _
    have pc:=g.pc _ (List.mem_of_getElem? e)
    generalize qs[i]'(by omega)=q at e pc
    obtain ⟨h1,h2⟩:=g.en_at (i:=i) (by omega) w
    have ht:=tag_at e
    have hw:=whoAt_of e
    rw [L2.take_succ_of e,Ti.after_snoc]
    show (∀ e,setE (Ti.nil.after (qs.take i)).en q.2.1 ((Ti.nil.after (qs.take i)).fin q) w=some e→_)∧(∀ j t,_→_→_→∃ e,setE (Ti.nil.after (qs.take i)).en q.2.1 ((Ti.nil.after (qs.take i)).fin q) w=some e∧_)
    unfold setE
    by_cases cw:w=q.2.1
    · rw [if_pos cw]
      refine ⟨fun e' he=>⟨i,_,by omega,by rw [hw,cw],ht,by cases he; rfl⟩,fun j t hj hwj htj=>⟨_,rfl,?_⟩⟩
      by_cases cj:j=i
      · subst cj
        rw [ht] at htj
        cases htj
        exact Rat.le_refl
      · obtain ⟨e0,he0,le0⟩:=h2 j t (by omega) hwj htj
        have:=(beg_ge (Ti.nil.after (qs.take i)) q).2 e0 (by rw [← cw]; exact he0)
        have:=len_pos pc
        show t.2≤(Ti.nil.after (qs.take i)).beg q + _
        grind
    · rw [if_neg cw]
      refine ⟨fun e' he=>?_,fun j t hj hwj htj=>?_⟩
      · obtain ⟨j,t,hj,r⟩:=h1 e' he
        exact ⟨j,t,by omega,r⟩
      · by_cases cj:j=i
        · subst cj
          exact absurd (hwj.symm.trans hw) cw
        · exact h2 j t (by omega) hwj htj
theorem Good.fs_at {n:Nat} {M:Int} {a c:Nat} {qs:List Q4} (_:Good n M a c qs) {i:Nat} {f:F4} (h:(fsOf qs (Ti.nil.tags qs))[i]? = some f):∃ q,qs[i]? = some q∧f=(q.1,(Ti.nil.after (qs.take i)).beg q,(Ti.nil.after (qs.take i)).fin q,q.2.2.2):=by
  have hi:=(List.getElem?_eq_some_iff.mp h).1
  rw [fsOf_len Ti.tags_len] at hi
  have e:qs[i]? = some (qs[i]'hi):=List.getElem?_eq_getElem _
  have:=fsOf_get e (tag_at e)
  rw [h] at this
  cases this
  exact ⟨_,e,rfl⟩
theorem Good.runs {n:Nat} {M:Int} {a c:Nat} {qs:List Q4} (g:Good n M a c qs):Run (fsOf qs (Ti.nil.tags qs)) (whoAt qs):=by
  obtain ⟨D0,ok⟩:=fs_ok g.F g.ln g.pc g.pw
  refine ⟨ok.s1,fun i f h=>?_,fun i f h=>?_,fun i f h=>?_,fun i j f f2 hj hw h h2=>?_,fun i j f f2 hj h h2=>?_⟩
  · obtain ⟨q,e,rfl⟩:=g.fs_at h
    obtain ⟨t,u,k1,k2,h1,_,hf,L,_⟩:=g.both e
    rw [tag_at e] at h1
    cases h1
    exact ⟨k1,k2,L⟩
  · obtain ⟨q,e,rfl⟩:=g.fs_at h
    have:=len_pos (g.pc _ (List.mem_of_getElem? e))
    show (Ti.nil.after (qs.take i)).beg q<(Ti.nil.after (qs.take i)).beg q + _
    grind
  · obtain ⟨q,e,rfl⟩:=g.fs_at h
    have hi:=(List.getElem?_eq_some_iff.mp e).1
    obtain ⟨k,hk⟩:=g.coming e
    refine ⟨k,by rw [hk],by rw [hk]; exact (beg_ge _ _).1,?_⟩
    rw [hk]
    rcases beg_is (Ti.nil.after (qs.take i)) q with z | z
    · exact .inl z.symm
    · obtain ⟨j,t,hj,hw,ht,et⟩:=(g.en_at (i:=i) (by omega) q.2.1).1 _ z
      have ej:qs[j]? = some (qs[j]'(by omega)):=List.getElem?_eq_getElem _
      exact .inr ⟨j,_,hj,by rw [hw,whoAt_of e],fsOf_get ej ht,et⟩
  · obtain ⟨q,e,rfl⟩:=g.fs_at h
    obtain ⟨q2,e2,rfl⟩:=g.fs_at h2
    have hi:=(List.getElem?_eq_some_iff.mp e).1
    obtain ⟨en,h3,h4⟩:=(g.en_at (i:=i) (by omega) q.2.1).2 j _ hj (by rw [hw,whoAt_of e]) (tag_at e2)
    have:=(beg_ge (Ti.nil.after (qs.take i)) q).2 en h3
    show (Ti.nil.after (qs.take j)).fin q2≤(Ti.nil.after (qs.take i)).beg q
    grind
  · obtain ⟨q,e,rfl⟩:=g.fs_at h
    obtain ⟨q2,e2,rfl⟩:=g.fs_at h2
    exact pw_le g.pw hj e e2
end Sw
namespace Sw
open L2
abbrev S3:=Int×Int×Rat
def tq:List Rat→Rat
  | []=>0
  | x :: r=>x+tq r
theorem tq_app:∀ (a b:List Rat),tq (a++b)=tq a+tq b
  | [],b=>by show tq b = 0+tq b; grind
  | x :: r,b=>by show x+tq (r++b)=x+tq r+tq b; rw [tq_app r b]; grind
theorem tq_snoc (a:List Rat) (x:Rat):tq (a++[x])=tq a+x:=by rw [tq_app]; show tq a+(x+0) = _; grind
theorem tq_split (p:Nat→Bool) (f:Nat→Rat):∀ l:List Nat,tq ((l.filter p).map f)+tq ((l.filter fun i=>!p i).map f)=tq (l.map f)
  | []=>by show (0:Rat)+0 = 0; grind
  | x :: r=>by
    have ih:=tq_split p f r
    rw [List.filter_cons,List.filter_cons,List.map_cons]
    cases h:p x with
    | true =>
      rw [if_pos rfl,if_neg (by decide),List.map_cons]
      show f x + _ + _=f x + _
      grind
    | false =>
      rw [if_neg (by decide),if_pos (show (!false)=true from rfl),List.map_cons]
      show _ + (f x + _)=f x + _
      grind
theorem tq_sub (f g:Nat→Rat):∀ l:List Nat,tq (l.map fun i=>f i-g i)=tq (l.map f)-tq (l.map g)
  | []=>by show (0:Rat) = 0-0; grind
  | x :: r=>by
    have ih:=tq_sub f g r
    show f x-g x+tq (r.map fun i=>f i-g i)=f x+tq (r.map f)-(g x+tq (r.map g))
    rw [ih]; grind
theorem tq_scale (c S:Rat) (s:Nat→Int):∀ l:List Nat,tq (l.map fun i=>c*((s i:Rat) / S))=c*(((l.map s).sum:Int):Rat) / S
  | []=>by
    show (0:Rat)=c*((0:Int):Rat) / S
    have:((0:Int):Rat) = 0:=rfl
    rw [this]; grind
  | x :: r=>by
    have ih:=tq_scale c S s r
    show c*((s x:Rat) / S)+tq (r.map fun i=>c*((s i:Rat) / S)) = _
    rw [ih,List.map_cons,List.sum_cons,Rat.intCast_add]
    grind
theorem tq_neg:∀ {l:List Rat},(∀ x∈l,x≤0)→tq l≤0
  | [],_=>Rat.le_refl
  | x :: r,h=>by
    have:=tq_neg (l:=r) fun y hy=>h y (List.mem_cons_of_mem _ hy)
    have:=h x (by simp)
    show x+tq r≤0
    grind
theorem tq_pos:∀ {l:List Rat},(∀ x∈l,0≤x)→0≤tq l
  | [],_=>Rat.le_refl
  | x :: r,h=>by
    have:=tq_pos (l:=r) fun y hy=>h y (List.mem_cons_of_mem _ hy)
    have:=h x (by simp)
    show 0≤x+tq r
    grind
theorem tq_one:∀ {l:List Rat},(∀ x∈l,0≤x)→∀ {x:Rat},x∈l→x≤tq l
  | [],_,_,h=>by cases h
  | y :: r,h,x,hx=>by
    have h0:=tq_pos (l:=r) fun y hy=>h y (List.mem_cons_of_mem _ hy)
    have h1:=h y (by simp)
    show x≤y+tq r
    rcases List.mem_cons.mp hx with z | z
    · subst z; grind
    · have:=tq_one (l:=r) (fun y hy=>h y (List.mem_cons_of_mem _ hy)) z
      grind
theorem tq_grd {D:Int} (hD:D≠0):∀ {l:List Rat},(∀ x∈l,Grd D x)→Grd D (tq l)
  | [],_=>Grd.int hD 0
  | x :: r,h=>(h x (by simp)).add (tq_grd hD fun y hy=>h y (List.mem_cons_of_mem _ hy))
theorem filter_lt {p q:Nat→Bool} {j:Nat} (hp:p j=true) (hq:q j=false):∀ {l:List Nat},(∀ i∈l,q i=true→p i=true)→j∈l→(l.filter q).length<(l.filter p).length
  | [],_,h=>by cases h
  | x :: r,h,hj=>by
    have le:∀ {l:List Nat},(∀ i∈l,q i=true→p i=true)→(l.filter q).length≤(l.filter p).length:=fun {l}=>by
      induction l with
      | nil=>intro _; exact Nat.le_refl _
      | cons a b ih =>
        intro h
        have i1:=ih fun i hi=>h i (List.mem_cons_of_mem _ hi)
        have i2:=h a (by simp)
        rw [List.filter_cons,List.filter_cons]
        cases ha:q a with
        | true=>rw [if_pos rfl,i2 ha,if_pos rfl,List.length_cons,List.length_cons]; omega
        | false =>
          rw [if_neg (by decide)]
          split
          · rw [List.length_cons]; omega
          · exact i1
    have hr:∀ i∈r,q i=true→p i=true:=fun i hi=>h i (List.mem_cons_of_mem _ hi)
    rw [List.filter_cons,List.filter_cons]
    by_cases c:x=j
    · subst c
      have:=le hr
      rw [hq,hp,if_neg (by decide),if_pos rfl,List.length_cons]
      omega
    · have hj:j∈r:=by
        rcases List.mem_cons.mp hj with z | z
        · exact absurd z.symm c
        · exact z
      have ih:=filter_lt hp hq hr hj
      have i2:=h x (by simp)
      cases ha:q x with
      | true=>rw [if_pos rfl,i2 ha,if_pos rfl,List.length_cons,List.length_cons]; omega
      | false =>
        rw [if_neg (by decide)]
        split
        · rw [List.length_cons]; omega
        · exact ih
section
variable (ss:List S3)
def shS (i:Nat):Int:=((ss[i]?).map fun s=>s.1).getD 0
def buS (i:Nat):Int:=((ss[i]?).map fun s=>s.2.1).getD 0
def rtS (i:Nat):Rat:=((ss[i]?).map fun s=>s.2.2).getD 0
def fullS (h:Nat→Rat):List Nat:=(List.range ss.length).filter fun i=>decide (0<h i)
def sumF (h:Nat→Rat):Int:=((fullS ss h).map (shS ss)).sum
def restS (h:Nat→Rat):List Rat:=((List.range ss.length).filter fun i=>!decide (i∈fullS ss h)).map (rtS ss)
def leftS (h:Nat→Rat):Rat:=1-tq (restS ss h)
def outS (h:Nat→Rat) (i:Nat):Rat:=if i∈fullS ss h then leftS ss h*((shS ss i:Rat) / (sumF ss h:Rat)) else rtS ss i
def falS (h:Nat→Rat) (i:Nat):Rat:=outS ss h i-rtS ss i
def tmsS (h:Nat→Rat):List Rat:=((List.range ss.length).filter fun i=>decide (0<falS ss h i)).map fun i=>h i / falS ss h i
def tmS (h:Nat→Rat):Rat:=minL (tmsS ss h)
def nxH (h:Nat→Rat) (i:Nat):Rat:=h i-falS ss h i*tmS ss h
def crS:Nat→(Nat→Rat)×Rat
  | 0=>(fun i=>(buS ss i:Rat),0)
  | k+1=>(nxH ss (crS k).1,(crS k).2+tmS ss (crS k).1)
end
structure Plan (ss:List S3) (L:Int):Prop where
  n8:ss.length≤8
  L1:1≤L
  L2:L≤1000000000000000000
  s1:∀ s∈ss,1≤s.1
  b1:∀ s∈ss,1≤s.2.1∧s.2.1≤1000000000000
  r0:∀ s∈ss,0≤s.2.2
  gr:∀ s∈ss,Grd L s.2.2
  lt:tq (ss.map fun s=>s.2.2)<1
  lim:L*(ss.map fun s=>s.1).sum≤1000000000000000000
section
variable {ss:List S3} {h:Nat→Rat}
theorem full_iff {i:Nat}:i∈fullS ss h↔i<ss.length∧0<h i:=by unfold fullS; simp
theorem rt_map (ss:List S3):(List.range ss.length).map (rtS ss)=ss.map fun s=>s.2.2:=by
  refine List.ext_getElem? fun i=>?_
  rw [List.getElem?_map,List.getElem?_map]
  by_cases c:i<ss.length
  · rw [List.getElem?_range c,List.getElem?_eq_getElem c]
    show some (rtS ss i) = _
    unfold rtS
    rw [List.getElem?_eq_getElem c]
    rfl
  · rw [List.getElem?_eq_none (by simpa using c),List.getElem?_eq_none (by omega)]; rfl
theorem sh_map (ss:List S3):(List.range ss.length).map (shS ss)=ss.map fun s=>s.1:=by
  refine List.ext_getElem? fun i=>?_
  rw [List.getElem?_map,List.getElem?_map]
  by_cases c:i<ss.length
  · rw [List.getElem?_range c,List.getElem?_eq_getElem c]
    show some (shS ss i) = _
    unfold shS
    rw [List.getElem?_eq_getElem c]
    rfl
  · rw [List.getElem?_eq_none (by simpa using c),List.getElem?_eq_none (by omega)]; rfl
theorem at_mem {i:Nat} (c:i<ss.length):∃ s∈ss,shS ss i=s.1∧buS ss i=s.2.1∧rtS ss i=s.2.2:=by
  refine ⟨ss[i],List.getElem_mem c,?_⟩
  unfold shS buS rtS
  rw [List.getElem?_eq_getElem c]
  exact ⟨rfl,rfl,rfl⟩
theorem rt_ge {L:Int} (P:Plan ss L) (i:Nat):0≤rtS ss i:=by
  by_cases c:i<ss.length
  · obtain ⟨s,hs,_,_,e⟩:=at_mem c
    rw [e]; exact P.r0 s hs
  · unfold rtS
    rw [List.getElem?_eq_none (by omega)]
    exact Rat.le_refl
theorem rt_gr {L:Int} (P:Plan ss L) (i:Nat):Grd L (rtS ss i):=by
  by_cases c:i<ss.length
  · obtain ⟨s,hs,_,_,e⟩:=at_mem c
    rw [e]; exact P.gr s hs
  · unfold rtS
    rw [List.getElem?_eq_none (by omega)]
    exact Grd.int (by have:=P.L1; omega) 0
theorem fal_out {i:Nat} (c:¬ i∈fullS ss h):falS ss h i = 0:=by
  unfold falS outS
  rw [if_neg c]; grind
theorem sum_sub (s:Nat→Int) (p:Nat→Bool):∀ {l:List Nat},(∀ i∈l,0≤s i)→((l.filter p).map s).sum≤(l.map s).sum
  | [],_=>Int.le_refl _
  | x :: r,h=>by
    have ih:=sum_sub s p (l:=r) fun i hi=>h i (List.mem_cons_of_mem _ hi)
    have:=h x (by simp)
    rw [List.filter_cons,List.map_cons,List.sum_cons]
    split
    · rw [List.map_cons,List.sum_cons]; omega
    · omega
theorem sumF_ok {L:Int} (P:Plan ss L) (ne:fullS ss h≠[]):1≤sumF ss h∧L*sumF ss h≤1000000000000000000:=by
  have sp:∀ i,i<ss.length→1≤shS ss i:=fun i hi=>by
    obtain ⟨s,hs,e,_⟩:=at_mem hi
    rw [e]; exact P.s1 s hs
  refine ⟨sum_pos (fun x hx=>?_) (by simpa using ne),?_⟩
  · obtain ⟨i,hi,rfl⟩:=List.mem_map.mp hx
    exact sp i (full_iff.mp hi).1
  · have a:=sum_sub (shS ss) (fun i=>decide (0<h i)) (l:=List.range ss.length) fun i hi=>by
      have:=sp i (List.mem_range.mp hi); omega
    rw [sh_map] at a
    have b:=Int.mul_le_mul_of_nonneg_left a (show 0≤L by have:=P.L1; omega)
    have:=P.lim
    show L*(((List.range ss.length).filter fun i=>decide (0<h i)).map (shS ss)).sum≤_
    omega
theorem rest_split {L:Int} (_:Plan ss L):tq ((fullS ss h).map (rtS ss))+tq (restS ss h)=tq (ss.map fun s=>s.2.2):=by
  rw [← rt_map,← tq_split (fun i=>decide (0<h i)) (rtS ss) (List.range ss.length)]
  congr 1
  unfold restS
  congr 2
  refine List.filter_congr fun i hi=>?_
  congr 1
  exact decide_eq_decide.mpr ⟨fun z=>(full_iff.mp z).2,fun z=>full_iff.mpr ⟨List.mem_range.mp hi,z⟩⟩
theorem left_ok {L:Int} (P:Plan ss L) (h:Nat→Rat):0<leftS ss h∧leftS ss h≤1:=by
  have a:=rest_split (h:=h) P
  have b:=P.lt
  have c:=tq_pos (l:=(fullS ss h).map (rtS ss)) fun x hx=>by
    obtain ⟨i,_,rfl⟩:=List.mem_map.mp hx
    exact rt_ge P i
  have d:=tq_pos (l:=restS ss h) fun x hx=>by
    obtain ⟨i,_,rfl⟩:=List.mem_map.mp hx
    exact rt_ge P i
  unfold leftS
  constructor <;> grind
theorem fal_sum {L:Int} (P:Plan ss L) (ne:fullS ss h≠[]):0<tq ((fullS ss h).map (falS ss h)):=by
  have S1:=(sumF_ok P ne).1
  have S0:(0:Rat)<(sumF ss h:Rat):=q_cast_pos (by omega)
  have e:(fullS ss h).map (falS ss h)=(fullS ss h).map fun i=>leftS ss h*((shS ss i:Rat) / (sumF ss h:Rat))-rtS ss i:=by
    refine List.map_congr_left fun i hi=>?_
    unfold falS outS
    rw [if_pos hi]
  rw [e,tq_sub,tq_scale]
  have e2:leftS ss h*((((fullS ss h).map (shS ss)).sum:Int):Rat) / (sumF ss h:Rat)=leftS ss h:=by
    show leftS ss h*(sumF ss h:Rat) / (sumF ss h:Rat) = _
    have:(sumF ss h:Rat)≠0:=by grind
    grind
  rw [e2]
  have a:=rest_split (h:=h) P
  have b:=P.lt
  unfold leftS
  grind
theorem tms_mem {x:Rat}:x∈tmsS ss h↔∃ i,i<ss.length∧0<falS ss h i∧x=h i / falS ss h i:=by
  unfold tmsS
  constructor
  · intro z
    obtain ⟨i,hi,rfl⟩:=List.mem_map.mp z
    obtain ⟨a,b⟩:=List.mem_filter.mp hi
    exact ⟨i,List.mem_range.mp a,by simpa using b,rfl⟩
  · rintro ⟨i,a,b,rfl⟩
    exact List.mem_map.mpr ⟨i,List.mem_filter.mpr ⟨List.mem_range.mpr a,by simpa using b⟩,rfl⟩
theorem tms_ne {L:Int} (P:Plan ss L) (ne:fullS ss h≠[]):tmsS ss h≠[]:=by
  intro z
  have:=fal_sum P ne
  have:=tq_neg (l:=(fullS ss h).map (falS ss h)) fun x hx=>by
    obtain ⟨i,hi,rfl⟩:=List.mem_map.mp hx
    by_cases c:0<falS ss h i
    · exfalso
      have:=tms_mem.mpr ⟨i,(full_iff.mp hi).1,c,rfl⟩
      rw [z] at this
      cases this
    · grind
  grind
theorem tm_at {L:Int} (P:Plan ss L) (ne:fullS ss h≠[]):∃ j,j∈fullS ss h∧0<falS ss h j∧tmS ss h=h j / falS ss h j∧0<tmS ss h:=by
  obtain ⟨j,a,b,c⟩:=tms_mem.mp (minL_mem (tms_ne P ne))
  have hj:j∈fullS ss h:=by
    by_cases z:j∈fullS ss h
    · exact z
    · rw [fal_out z] at b; grind
  refine ⟨j,hj,b,c,?_⟩
  have h0:=(full_iff.mp hj).2
  show 0<tmS ss h
  unfold tmS
  rw [c]
  have:=div_lt b h0
  have e:(0:Rat) / falS ss h j = 0:=by grind
  rw [e] at this
  exact this
theorem nx_ge {L:Int} (P:Plan ss L) (ne:fullS ss h≠[]) (h0:∀ i,0≤h i) (i:Nat):0≤nxH ss h i:=by
  obtain ⟨j,_,_,_,t0⟩:=tm_at P ne
  unfold nxH
  by_cases c:0<falS ss h i
  · have hi:i<ss.length:=by
      by_cases z:i∈fullS ss h
      · exact (full_iff.mp z).1
      · rw [fal_out z] at c; grind
    have le:tmS ss h≤h i / falS ss h i:=minL_le (tms_mem.mpr ⟨i,hi,c,rfl⟩)
    have:=Rat.mul_le_mul_of_nonneg_left le (Rat.le_of_lt c)
    have e:falS ss h i*(h i / falS ss h i)=h i:=by
      have:falS ss h i≠0:=by grind
      grind
    rw [e] at this
    grind
  · have:=Rat.mul_le_mul_of_nonneg_left (show falS ss h i≤0 by grind) (Rat.le_of_lt t0)
    have:=h0 i
    grind
theorem nx_full {L:Int} (P:Plan ss L) (ne:fullS ss h≠[]) (h0:∀ i,0≤h i):(fullS ss (nxH ss h)).length<(fullS ss h).length:=by
  obtain ⟨j,hj,b,c,t0⟩:=tm_at P ne
  have ej:nxH ss h j = 0:=by
    unfold nxH
    rw [c]
    have:falS ss h j≠0:=by grind
    grind
  refine filter_lt (p:=fun i=>decide (0<h i)) (q:=fun i=>decide (0<nxH ss h i)) (j:=j) (by simpa using (full_iff.mp hj).2) (by rw [ej]; rfl) (fun i hi z=>?_) (List.mem_range.mpr (full_iff.mp hj).1)
  have z:0<nxH ss h i:=by simpa using z
  by_cases f:i∈fullS ss h
  · simpa using (full_iff.mp f).2
  · exfalso
    unfold nxH at z
    rw [fal_out f] at z
    have:¬ 0<h i:=fun y=>f (full_iff.mpr ⟨List.mem_range.mp hi,y⟩)
    grind
end
end Sw
namespace Sw
open L2
structure Pz (ss:List S3) (k:Nat) (h:Nat→Rat) (mo:Rat):Prop where
  ex:∃ D M:Int,1≤D∧Sz (61*k+1) D∧1≤M∧Sz (61*k+41) M∧(∀ i,Grd D (h i)∧h i≤(M:Rat))∧Grd D mo∧mo≤(M:Rat)
  h0:∀ i,0≤h i
  m0:0≤mo
section
variable {ss:List S3} {h:Nat→Rat}
theorem rt_le {L:Int} (P:Plan ss L) (i:Nat):rtS ss i≤1:=by
  by_cases c:i<ss.length
  · have:=tq_one (l:=ss.map fun s=>s.2.2) (fun x hx=>by
      obtain ⟨s,hs,rfl⟩:=List.mem_map.mp hx
      exact P.r0 s hs) (x:=rtS ss i) (by
        rw [← rt_map]
        exact List.mem_map.mpr ⟨i,List.mem_range.mpr c,rfl⟩)
    have:=P.lt
    grind
  · unfold rtS
    rw [List.getElem?_eq_none (by omega)]
    show (0:Rat)≤1
    decide
theorem left_gr {L:Int} (P:Plan ss L) (h:Nat→Rat):Grd L (leftS ss h):=by
  have L0:L≠0:=by have:=P.L1; omega
  unfold leftS
  exact (Grd.int L0 1).sub (tq_grd L0 fun x hx=>by
    obtain ⟨i,_,rfl⟩:=List.mem_map.mp hx
    exact rt_gr P i)
theorem out_gr {L:Int} (P:Plan ss L) (ne:fullS ss h≠[]) (i:Nat):Grd (L*sumF ss h) (outS ss h i):=by
  have L0:L≠0:=by have:=P.L1; omega
  have S0:sumF ss h≠0:=by have:=(sumF_ok P ne).1; omega
  unfold outS
  split
  · have:leftS ss h*((shS ss i:Rat) / (sumF ss h:Rat))=leftS ss h*(shS ss i:Rat) / (sumF ss h:Rat):=by grind
    rw [this]
    exact ((left_gr P h).muli _).divi L0 S0
  · exact (rt_gr P i).more L0 S0
theorem out_ok {L:Int} (P:Plan ss L) (ne:fullS ss h≠[]) (i:Nat):0≤outS ss h i∧outS ss h i≤1:=by
  unfold outS
  split
  · rename_i c
    have S1:=(sumF_ok P ne).1
    have S0:(0:Rat)<(sumF ss h:Rat):=q_cast_pos (by omega)
    obtain ⟨l0,l1⟩:=left_ok P h
    have sp:∀ i∈fullS ss h,1≤shS ss i:=fun i hi=>by
      obtain ⟨s,hs,e,_⟩:=at_mem (full_iff.mp hi).1
      rw [e]; exact P.s1 s hs
    have s1:=sp i c
    have sle:shS ss i≤sumF ss h:=by
      unfold sumF
      have:∀ {l:List Nat},(∀ i∈l,1≤shS ss i)→i∈l→shS ss i≤(l.map (shS ss)).sum:=fun {l}=>by
        induction l with
        | nil=>intro _ h; cases h
        | cons x r ih =>
          intro h hi
          have h1:=h x (by simp)
          have h2:0≤(r.map (shS ss)).sum:=by
            by_cases z:r = []
            · subst z; exact Int.le_refl _
            · have:=sum_pos (l:=r.map (shS ss)) (fun y hy=>by
                obtain ⟨i,hi,rfl⟩:=List.mem_map.mp hy
                exact h i (List.mem_cons_of_mem _ hi)) (by simpa using z)
              omega
          rw [List.map_cons,List.sum_cons]
          rcases List.mem_cons.mp hi with z | z
          · subst z; omega
          · have:=ih (fun i hi=>h i (List.mem_cons_of_mem _ hi)) z; omega
      exact this sp c
    have q0:(0:Rat)≤(shS ss i:Rat) / (sumF ss h:Rat):=by
      have:=div_mono S0 (show (0:Rat)≤(shS ss i:Rat) from Rat.intCast_nonneg.mpr (by omega))
      have e:(0:Rat) / (sumF ss h:Rat) = 0:=by grind
      rw [e] at this
      exact this
    have q1:(shS ss i:Rat) / (sumF ss h:Rat)≤1:=by
      have:=div_mono S0 (show (shS ss i:Rat)≤(sumF ss h:Rat) from Rat.intCast_le_intCast.mpr sle)
      have e:(sumF ss h:Rat) / (sumF ss h:Rat) = 1:=by
        have:(sumF ss h:Rat)≠0:=by grind
        grind
      rw [e] at this
      exact this
    have a:=Rat.mul_nonneg (Rat.le_of_lt l0) q0
    have b:=Rat.mul_le_mul_of_nonneg_left q1 (Rat.le_of_lt l0)
    refine ⟨a,?_⟩
    grind
  · exact ⟨rt_ge P i,rt_le P i⟩
end
end Sw
namespace Sw
open L2
section
variable {ss:List S3} {h:Nat→Rat}
theorem Pz.step {L:Int} (P:Plan ss L) (ne:fullS ss h≠[]) {k:Nat} {mo:Rat} (z:Pz ss k h mo):Pz ss (k+1) (nxH ss h) (mo+tmS ss h)∧∃ D M:Int,1≤D∧Sz (61*(k+1)+1) D∧1≤M∧Sz (61*(k+1)+41) M∧(∀ i,Grd D (falS ss h i*tmS ss h)∧-(M:Rat)≤falS ss h i*tmS ss h∧falS ss h i*tmS ss h≤(M:Rat))∧Grd D (tmS ss h)∧0≤tmS ss h∧tmS ss h≤(M:Rat):=by
  obtain ⟨D,M,D1,zD,M1,zM,hg,mg,mM⟩:=z.ex
  obtain ⟨j,hj,f0,et,t0⟩:=tm_at P ne
  obtain ⟨S1,SL⟩:=sumF_ok P ne
  have L1:=P.L1
  have W1:1≤L*sumF ss h:=by
    have:=Int.mul_le_mul_of_nonneg_left S1 (show 0≤L by omega)
    omega
  have W0:(0:Rat)<((L*sumF ss h:Int):Rat):=q_cast_pos (by omega)
  have fg:∀ i,Grd (L*sumF ss h) (falS ss h i):=fun i=>by
    unfold falS
    exact (out_gr P ne i).sub ((rt_gr P i).more (by omega) (by omega))
  have fb:∀ i,-1≤falS ss h i∧falS ss h i≤1:=fun i=>by
    have a:=out_ok P ne i
    have b:=rt_ge P i
    have c:=rt_le P i
    unfold falS
    constructor <;> grind
  generalize L*sumF ss h=W at *
  obtain ⟨a,ea⟩:=fg j
  have a0:0<a:=by
    by_cases c:0<a
    · exact c
    · exfalso
      have:=div_mono W0 (show (a:Rat)≤0 from by
        have:=Rat.intCast_le_intCast.mpr (show a≤0 by omega)
        exact this)
      have e:(0:Rat) / (W:Rat) = 0:=by grind
      grind
  have aW:a≤W:=by
    by_cases c:a≤W
    · exact c
    · exfalso
      have:=div_lt W0 (show (W:Rat)<(a:Rat) from Rat.intCast_lt_intCast.mpr (by omega))
      have e:(W:Rat) / (W:Rat) = 1:=by
        have:(W:Rat)≠0:=by grind
        grind
      have:=(fb j).2
      grind
  have A0:(0:Rat)<(a:Rat):=q_cast_pos a0
  have tE:tmS ss h=h j*(W:Rat) / (a:Rat):=by
    rw [et,ea]
    have:(W:Rat)≠0:=by grind
    have:(a:Rat)≠0:=by grind
    grind
  have hj0:=z.h0 j
  have tW:tmS ss h≤(M:Rat)*1000000000000000000:=by
    have x1:h j*(W:Rat) / (a:Rat)≤h j*(W:Rat):=by
      have p0:=Rat.mul_nonneg hj0 (Rat.le_of_lt W0)
      have:¬ h j*(W:Rat)<h j*(W:Rat) / (a:Rat):=fun y=>by
        have e:h j*(W:Rat) / (a:Rat)*(a:Rat)=h j*(W:Rat):=by
          have:(a:Rat)≠0:=by grind
          grind
        have a1:(1:Rat)≤(a:Rat):=by
          have:=Rat.intCast_le_intCast.mpr (show 1≤a by omega)
          exact this
        have:=Rat.mul_le_mul_of_nonneg_left a1 (show 0≤h j*(W:Rat) / (a:Rat) by grind)
        grind
      grind
    have x2:=Rat.mul_le_mul_of_nonneg_left (show (W:Rat)≤1000000000000000000 from Rat.intCast_le_intCast.mpr SL) hj0
    have x3:=Rat.mul_le_mul_of_nonneg_right (hg j).2 (show (0:Rat)≤1000000000000000000 by grind)
    rw [tE]
    grind
  have DA:D*a≠0:=Int.mul_ne_zero (by omega) (by omega)
  have DA1:1≤D*a:=by
    have:=Int.mul_pos (show 0<D by omega) a0
    omega
  have p61:a<2 ^ 61:=by simp only [Int.reducePow]; omega
  have zDA:Sz (61*(k+1)+1) (D*a):=(zD.mul (sz_of (a:=61) (by omega) p61)).mono (by omega)
  have zM':Sz (61*(k+1)+41) (M*1000000000000000001):=(zM.mul (sz_of (a:=61) (by omega) (by simp only [Int.reducePow,Int.reduceLT]))).mono (by omega)
  have tg:Grd (D*a) (tmS ss h):=by rw [tE]; exact (((hg j).1).muli W).divi (by omega) (by omega)
  have fg2:∀ i,Grd (D*a) (falS ss h i*tmS ss h):=fun i=>by
    obtain ⟨fi,efi⟩:=fg i
    have e:falS ss h i*tmS ss h=h j*(fi:Rat) / (a:Rat):=by
      rw [tE,efi]
      have:(W:Rat)≠0:=by grind
      have:(a:Rat)≠0:=by grind
      grind
    rw [e]
    exact (((hg j).1).muli fi).divi (by omega) (by omega)
  have M0:(1:Rat)≤(M:Rat):=by
    have:=Rat.intCast_le_intCast.mpr M1
    exact this
  have eM:((M*1000000000000000001:Int):Rat)=(M:Rat)*1000000000000000001:=by rw [Rat.intCast_mul]; rfl
  have ft:∀ i,-tmS ss h≤falS ss h i*tmS ss h∧falS ss h i*tmS ss h≤tmS ss h:=fun i=>by
    have a:=Rat.mul_le_mul_of_nonneg_right (fb i).1 (Rat.le_of_lt t0)
    have b:=Rat.mul_le_mul_of_nonneg_right (fb i).2 (Rat.le_of_lt t0)
    constructor <;> grind
  refine ⟨⟨⟨D*a,M*1000000000000000001,DA1,zDA,by omega,zM',fun i=>⟨?_,?_⟩,?_,?_⟩,fun i=>nx_ge P ne z.h0 i,?_⟩,D*a,M*1000000000000000001,DA1,zDA,by omega,zM',fun i=>⟨fg2 i,?_,?_⟩,tg,Rat.le_of_lt t0,?_⟩
  · exact (((hg i).1).more (by omega) (by omega)).sub (fg2 i)
  · have:=(ft i).1
    have:=(hg i).2
    rw [eM]
    unfold nxH
    grind
  · exact (mg.more (by omega) (by omega)).add tg
  · rw [eM]; grind
  · have:=z.m0; grind
  · have:=(ft i).1; rw [eM]; grind
  · have:=(ft i).2; rw [eM]; grind
  · rw [eM]; grind
theorem Pz.sz {k:Nat} {mo:Rat} (z:Pz ss k h mo) (hk:k≤9):(∀ i,SzQ 1200 (h i))∧SzQ 1200 mo:=by
  obtain ⟨D,M,D1,zD,M1,zM,hg,mg,mM⟩:=z.ex
  have M0:(1:Rat)≤(M:Rat):=by
    have:=Rat.intCast_le_intCast.mpr M1
    exact this
  refine ⟨fun i=>?_,?_⟩
  · have:=z.h0 i
    exact ((hg i).1.sz (by omega) zD zM (by grind) (hg i).2 (by omega)).mono (by omega)
  · have:=z.m0
    exact (mg.sz (by omega) zD zM (by grind) mM (by omega)).mono (by omega)
theorem cr_ok {L:Int} (P:Plan ss L):∀ k,(∀ j,j<k→fullS ss (crS ss j).1≠[])→Pz ss k (crS ss k).1 (crS ss k).2∧k+(fullS ss (crS ss k).1).length≤ss.length
  | 0,_=>by
    refine ⟨⟨⟨1,1000000000000,by decide,Sz.one 0,by decide,?_,fun i=>⟨Grd.int (by decide) _,?_⟩,Grd.int (by decide) 0,?_⟩,fun i=>?_,Rat.le_refl⟩,?_⟩
    · exact sz_of (a:=41) (by omega) (by simp only [Int.reducePow,Int.reduceLT])
    · show (buS ss i:Rat)≤_
      refine Rat.intCast_le_intCast.mpr ?_
      by_cases c:i<ss.length
      · obtain ⟨s,hs,_,e,_⟩:=at_mem c
        rw [e]; exact (P.b1 s hs).2
      · unfold buS
        rw [List.getElem?_eq_none (by omega)]
        show (0:Int)≤1000000000000
        omega
    · exact Rat.intCast_nonneg.mpr (show (0:Int)≤1000000000000 by omega)
    · show (0:Rat)≤(buS ss i:Rat)
      refine Rat.intCast_nonneg.mpr ?_
      by_cases c:i<ss.length
      · obtain ⟨s,hs,_,e,_⟩:=at_mem c
        rw [e]; have:=(P.b1 s hs).1; omega
      · unfold buS
        rw [List.getElem?_eq_none (by omega)]
        exact Int.le_refl _
    · have:(fullS ss (crS ss 0).1).length≤(List.range ss.length).length:=List.length_filter_le _ _
      rw [List.length_range] at this
      omega
  | k+1,hk=>by
    obtain ⟨z,le⟩:=cr_ok P k fun j hj=>hk j (by omega)
    have ne:=hk k (by omega)
    have lt:=nx_full P ne z.h0
    exact ⟨(z.step P ne).1,by
      show k+1+(fullS ss (nxH ss (crS ss k).1)).length≤ss.length
      omega⟩
end
end Sw
namespace Sw
theorem sh_le {ss:List S3} {L:Int} {h:Nat→Rat} (P:Plan ss L) {i:Nat} (c:i∈fullS ss h):shS ss i≤sumF ss h:=by
  have sp:∀ i∈fullS ss h,1≤shS ss i:=fun i hi=>by
    obtain ⟨s,hs,e,_⟩:=at_mem (full_iff.mp hi).1
    rw [e]; exact P.s1 s hs
  unfold sumF
  have:∀ {l:List Nat},(∀ i∈l,1≤shS ss i)→i∈l→shS ss i≤(l.map (shS ss)).sum:=fun {l}=>by
    induction l with
    | nil=>intro _ h; cases h
    | cons x r ih =>
      intro h hi
      have h1:=h x (by simp)
      have h2:0≤(r.map (shS ss)).sum:=by
        by_cases z:r = []
        · subst z; exact Int.le_refl _
        · have:=sum_pos (l:=r.map (shS ss)) (fun y hy=>by
            obtain ⟨i,hi,rfl⟩:=List.mem_map.mp hy
            exact h i (List.mem_cons_of_mem _ hi)) (by simpa using z)
          omega
      rw [List.map_cons,List.sum_cons]
      rcases List.mem_cons.mp hi with z | z
      · subst z; omega
      · have:=ih (fun i hi=>h i (List.mem_cons_of_mem _ hi)) z; omega
  exact this sp c
end Sw
namespace L2
open PySem PySem.Spec PyProof.Rows
theorem comp_zip {K:PySem.W.Frag} {a b:Addr} {xs ys:List V} {g:TG} {tc:TT} {te:TE} {D:Addr} {τ:St} {H:Hp} {Q:VK} (Pv:Nat→St→Hp→Prop) (h0:Pv 0 τ H) (hn:xs.length≤ys.length) (hl:∀ i τ H,i≤xs.length→Pv i τ H→SqL K H a xs∧SqL K H b ys)
    (hs:∀ i x y τ H p,xs[i]? = some x→ys[i]? = some y→Pv i τ H→H p=none→g (.ref p) τ (upd H p (.tup [x,y])) fun τ2 H3=>tc τ2 H3 fun b H4=>if b=true then te τ2 H4 fun y H5=>∃ ys,H5 D=some (.lst ys)∧ys.length<sizeLine∧Pv (i+1) τ2 (upd H5 D (.lst (ys++[y]))) else Pv (i+1) τ2 H4)
    (hd:∀ τ H,Pv xs.length τ H→Q (.ref D) H) :
    CompG (Itz K a b) g tc te D τ H Q:=by
  refine ⟨fun i m τ H=>m=xs.length-i∧i≤xs.length∧Pv i τ H,⟨xs.length,by simp,Nat.zero_le _,h0⟩,?_⟩
  rintro i m τ H ⟨rfl,hi,p⟩
  obtain ⟨q1,q2⟩:=hl i τ H hi p
  by_cases hlt:i<xs.length
  · refine .inr ⟨⟨xs,ys,xs[i],ys[i]'(by omega),q1,q2,by simp [hlt],List.getElem?_eq_getElem _⟩,Pv (i+1),fun τ' H' p'=>⟨xs.length-(i+1),by omega,rfl,hlt,p'⟩,fun v H2 z=>?_⟩
    obtain ⟨c,x,y,rfl,hc,hx,hy,rfl⟩:=z
    exact hs i x y τ H c (hx xs q1) (hy ys q2) p hc
  · have e:i=xs.length:=by omega
    subst e
    exact .inl ⟨⟨xs,ys,q1,q2,.inl (Nat.le_refl _)⟩,hd τ H p⟩
theorem while_g {c:TT} {tb:TS} {D:Ends} {σ:St} {H:Hp} (W:Nat→St→Hp→Prop) {m0:Nat} (h0:W m0 σ H)
    (hs:∀ m σ H,W m σ H→∀ Q:Bool→Hp→Prop,(∀ H1,tb { D with nx:=fun σ' H'=>∃ m',m' < m∧W m' σ' H',ct:=fun σ' H'=>∃ m',m' < m∧W m' σ' H',bk:=D.nx } σ H1→Q true H1)→(∀ H1,D.nx σ H1→Q false H1)→c σ H Q):tWhile c tb D σ H:=by
  refine ⟨W,⟨_,h0⟩,fun m σ H p=>?_⟩
  exact hs m σ H p _ (fun H1 h=>⟨_,fun σ' H' z=>z,h⟩) fun H1 h=>h
def fr (n:Nat) (h:Nat→Rat):List Rat:=(List.range n).map h
theorem fr_len (n:Nat) (h:Nat→Rat):(fr n h).length=n:=by unfold fr; rw [List.length_map,List.length_range]
theorem fr_get {n i:Nat} (h:Nat→Rat) (c:i<n):(fr n h)[i]? = some (h i):=by unfold fr; rw [List.getElem?_map,List.getElem?_range c]; rfl
theorem fr_snoc (n:Nat) (h:Nat→Rat):fr (n+1) h=fr n h++[h n]:=by unfold fr; rw [List.range_succ,List.map_append]; rfl
theorem fr_congr {n:Nat} {h g:Nat→Rat} (e:∀ i,i<n→h i=g i):fr n h=fr n g:=by
  unfold fr
  exact List.map_congr_left fun i hi=>e i (List.mem_range.mp hi)
def Sn2 (H:Hp) (p:Addr) (s:Sw.S3):Prop:=∃ pl pr,H p=some (.tup [.int s.1,.ref pl])∧H pl=some (.tup [.int s.2.1,.ref pr])∧H pr=some (.tup (fq s.2.2))
theorem Sn2.keep {H H':Hp} {p:Addr} {s:Sw.S3} (h:Sn2 H p s) (e:∀ p xs,H p=some (.tup xs)→H' p=some (.tup xs)):Sn2 H' p s:=by
  obtain ⟨pl,pr,h1,h2,h3⟩:=h
  exact ⟨pl,pr,e _ _ h1,e _ _ h2,e _ _ h3⟩
structure SnL (H:Hp) (l:Addr) (ps:List Addr) (ss:List Sw.S3):Prop where
  hl:H l=some (.lst (ps.map V.ref))
  r:Paired (Sn2 H) ps ss
theorem SnL.same {H H':Hp} {l:Addr} {ps:List Addr} {ss:List Sw.S3} (h:SnL H l ps ss) (s:Same H H'):SnL H' l ps ss:=⟨s _ _ h.hl,Paired.mapP h.r fun _ _ q=>q.keep fun _ _ e=>s _ _ e⟩
theorem SnL.copy {H:Hp} {l l':Addr} {ps:List Addr} {ss:List Sw.S3} (h:SnL H l ps ss) (f:H l'=none):SnL (upd H l' (.lst (ps.map V.ref))) l' ps ss:=⟨upd_same,(h.same (same_new f)).r⟩
theorem SnL.len {H:Hp} {l:Addr} {ps:List Addr} {ss:List Sw.S3} (h:SnL H l ps ss):ps.length=ss.length:=Paired.length h.r
theorem SnL.item {H:Hp} {l:Addr} {ps:List Addr} {ss:List Sw.S3} (h:SnL H l ps ss) {i:Nat} (c:i<ss.length):∃ p pl pr,ps[i]? = some p∧atI (ps.map V.ref) (i:Int)=some (.ref p)∧H p=some (.tup [.int (Sw.shS ss i),.ref pl])∧H pl=some (.tup [.int (Sw.buS ss i),.ref pr])∧H pr=some (.tup (fq (Sw.rtS ss i))):=by
  have e:ss[i]? = some (ss[i]'c):=List.getElem?_eq_getElem _
  obtain ⟨p,h1,pl,pr,h2,h3,h4⟩:=paired_at h.r e
  have e1:Sw.shS ss i=(ss[i]'c).1:=by unfold Sw.shS; rw [e]; rfl
  have e2:Sw.buS ss i=(ss[i]'c).2.1:=by unfold Sw.buS; rw [e]; rfl
  have e3:Sw.rtS ss i=(ss[i]'c).2.2:=by unfold Sw.rtS; rw [e]; rfl
  rw [e1,e2,e3]
  exact ⟨p,pl,pr,h1,atI_nat (by rw [List.getElem?_map,h1]; rfl),h2,h3,h4⟩
theorem lst_item {H:Hp} {l:Addr} {ps:List Addr} {n:Nat} {h:Nat→Rat} (L:Lst fq H l ps (fr n h)) {i:Nat} (c:i<n):∃ p,ps[i]? = some p∧atI (ps.map V.ref) (i:Int)=some (.ref p)∧H p=some (.tup (fq (h i))):=by
  have ln:=tupsF_len L.r
  rw [fr_len] at ln
  have e:ps[i]? = some (ps[i]'(by omega)):=List.getElem?_eq_getElem _
  obtain ⟨q,h1,h2⟩:=tupsF_get L.r e
  rw [fr_get h c] at h1
  cases h1
  exact ⟨_,e,atI_nat (by rw [List.getElem?_map,e]; rfl),h2⟩
def Pt4 (ss:List Sw.S3) (H:Hp) (p:Addr) (k:Nat):Prop:=∃ pm pa po ph os hs,H p=some (.tup [.ref pm,.ref pa,.ref po,.ref ph])∧H pm=some (.tup (fq (Sw.crS ss k).2))∧H pa=some (.tup (fq (Sw.crS ss (k+1)).2))∧Lst fq H po os (fr ss.length (Sw.outS ss (Sw.crS ss k).1))∧Lst fq H ph hs (fr ss.length (Sw.crS ss k).1)
theorem Pt4.same {ss:List Sw.S3} {H H':Hp} {p:Addr} {k:Nat} (h:Pt4 ss H p k) (s:Same H H'):Pt4 ss H' p k:=by
  obtain ⟨pm,pa,po,ph,os,hs,h1,h2,h3,h4,h5⟩:=h
  exact ⟨pm,pa,po,ph,os,hs,s _ _ h1,s _ _ h2,s _ _ h3,h4.same s,h5.same s⟩
structure PtL (ss:List Sw.S3) (H:Hp) (l:Addr) (ps:List Addr) (m:Nat):Prop where
  hl:H l=some (.lst (ps.map V.ref))
  r:Paired (Pt4 ss H) ps (List.range m)
theorem PtL.same {ss:List Sw.S3} {H H':Hp} {l:Addr} {ps:List Addr} {m:Nat} (h:PtL ss H l ps m) (s:Same H H'):PtL ss H' l ps m:=⟨s _ _ h.hl,Paired.mapP h.r fun _ _ q=>q.same s⟩
structure EndS (ss:List Sw.S3) (m:Nat):Prop where
  go:∀ j,j<m→Sw.fullS ss (Sw.crS ss j).1≠[]
  no:Sw.fullS ss (Sw.crS ss m).1 = []
  le:m≤ss.length
theorem flat_natI:∀ l:List Nat,(l.map natI).all flatV=true
  | []=>rfl
  | i :: r=>by
    rw [List.map_cons,List.all_cons,flat_natI r]
    rfl
theorem inV_natI (i:Nat) (l:List Nat):inV (.int (i:Nat)) (l.map natI)=decide (i∈l):=by
  unfold inV
  induction l with
  | nil=>rfl
  | cons x r ih =>
    rw [List.map_cons,List.any_cons,ih]
    have e:eqV (natI x) (.int (i:Nat))=decide (i=x):=by
      show decide ((x:Int)=(i:Int)) = _
      refine decide_eq_decide.mpr ⟨fun h=>by omega,fun h=>by omega⟩
    rw [e]
    by_cases c:i=x
    · simp [c]
    · simp [c]
theorem ixN_nat {n j:Nat} (h:j<n):ixN n (j:Int)=some j:=by
  unfold ixN
  rw [if_pos (by omega),if_pos (by omega),Int.toNat_natCast]
theorem tupsF_set {α:Type} {enc:α→List V} {H:Hp} {t:Addr} {q:α} (ht:H t=some (.tup (enc q))):∀ {ps:List Addr} {qs:List α} (i:Nat),TupsF enc H ps qs→TupsF enc H (ps.set i t) (qs.set i q)
  | _,_,_,Paired.nil=>.nil
  | _,_,0,Paired.cons _ b=>.cons ht b
  | _,_,i+1,Paired.cons a b=>.cons a (tupsF_set ht i b)
theorem fr_set {n i:Nat} (g:Nat→Rat) (x:Rat):(fr n g).set i x=fr n (fun j=>if j=i then x else g j):=by
  refine List.ext_getElem? fun j=>?_
  rw [List.getElem?_set]
  by_cases c:j<n
  · rw [fr_get _ c,fr_get _ c,fr_len]
    by_cases e:i=j
    · subst e; rw [if_pos rfl,if_pos c,if_pos rfl]
    · rw [if_neg e,if_neg (fun z=>e z.symm)]
  · rw [List.getElem?_eq_none (l:=fr n g) (by rw [fr_len]; omega),List.getElem?_eq_none (l:=fr n _) (by rw [fr_len]; omega),fr_len]
    split
    · rw [if_neg (by omega)]
    · rfl
def mn (H:Hp) (l:Addr):Hp:=fun b=>if b=l then none else H b
theorem mn_at {H:Hp} {l b:Addr} {o:HO} (h:H b=some o) (n:b≠l):mn H l b=some o:=by unfold mn; rw [if_neg n]; exact h
theorem mn_same {H:Hp} {l:Addr}:Same (mn H l) H:=fun b o e=>by
  unfold mn at e
  split at e
  · cases e
  · exact e
theorem mn_mono {H H':Hp} {l:Addr} (s:Same H H'):Same (mn H l) (mn H' l):=fun b o e=>by
  unfold mn at e ⊢
  split at e
  · cases e
  · rename_i n
    rw [if_neg n]; exact s _ _ e
theorem mn_upd {H:Hp} {l:Addr} {o:HO}:mn (upd H l o) l=mn H l:=funext fun b=>by
  unfold mn
  split
  · rfl
  · rename_i n; rw [upd_ne n]
theorem Lst.mn {H:Hp} {l x:Addr} {ps:List Addr} {qs:List Rat} (L:Lst fq H x ps qs) {ys:List V} (hl:H l=some (.lst ys)) (n:x≠l):Lst fq (L2.mn H l) x ps qs:=⟨mn_at L.hl n,tupsF_keep L.r fun p xs e=>mn_at e (ne_of e hl (by intro z; cases z))⟩
theorem f01q:((0:Int):Rat) / ((1:Int):Rat) = 0:=by decide +kernel
theorem fi1q (i:Int):(i:Rat) / ((1:Int):Rat)=(i:Rat):=by
  have:((1:Int):Rat) = 1:=rfl
  rw [this]; grind
end L2
namespace Sw
open L2
theorem tq_take {l:List Rat} (h:∀ x∈l,0≤x) (i:Nat):0≤tq (l.take i)∧tq (l.take i)≤tq l:=by
  have e:=tq_app (l.take i) (l.drop i)
  rw [List.take_append_drop] at e
  have a:=tq_pos (l:=l.drop i) fun x hx=>h x (List.mem_of_mem_drop hx)
  have b:=tq_pos (l:=l.take i) fun x hx=>h x (List.mem_of_mem_take hx)
  constructor <;> grind
theorem one_sz {L:Int} {q:Rat} (L1:1≤L) (L2:L≤1000000000000000000) (g:Grd L q) (h1:-1≤q) (h2:q≤1):SzQ 200 q:=by
  refine (g.sz (M:=1) (b:=1) (by omega) (sz_of (a:=60) (by omega) (by simp only [Int.reducePow]; omega)) (Sz.one 0) ?_ ?_ (by decide)).mono (by decide)
  · exact h1
  · exact h2
theorem tq_szs {L:Int} (L1:1≤L) (L2:L≤1000000000000000000) {l:List Rat} (h:∀ x∈l,0≤x) (g:∀ x∈l,Grd L x) (le:tq l≤1) (i:Nat):SzQ 200 (tq (l.take i)):=by
  obtain ⟨a,b⟩:=tq_take h i
  exact one_sz L1 L2 (tq_grd (by omega) fun x hx=>g x (List.mem_of_mem_take hx)) (by grind) (by grind)
theorem rt_sz {ss:List S3} {L:Int} (P:Plan ss L) (i:Nat):SzQ 200 (rtS ss i):=one_sz P.L1 P.L2 (rt_gr P i) (by have:=rt_ge P i; grind) (rt_le P i)
theorem left_sz {ss:List S3} {L:Int} (P:Plan ss L) (h:Nat→Rat):SzQ 200 (leftS ss h):=one_sz P.L1 P.L2 (left_gr P h) (by have:=(left_ok P h).1; grind) (left_ok P h).2
theorem rest_szs {ss:List S3} {L:Int} (P:Plan ss L) (h:Nat→Rat) (i:Nat):SzQ 200 (tq ((restS ss h).take i)):=by
  refine tq_szs P.L1 P.L2 (fun x hx=>?_) (fun x hx=>?_) ?_ i
  · obtain ⟨i,_,rfl⟩:=List.mem_map.mp hx
    exact rt_ge P i
  · obtain ⟨i,_,rfl⟩:=List.mem_map.mp hx
    exact rt_gr P i
  · have:=(left_ok P h).1
    unfold leftS at this
    grind
theorem rates_szs {ss:List S3} {L:Int} (P:Plan ss L) (i:Nat):SzQ 200 (tq ((ss.map fun s=>s.2.2).take i)):=by
  refine tq_szs P.L1 P.L2 (fun x hx=>?_) (fun x hx=>?_) (by have:=P.lt; grind) i
  · obtain ⟨s,hs,rfl⟩:=List.mem_map.mp hx
    exact P.r0 s hs
  · obtain ⟨s,hs,rfl⟩:=List.mem_map.mp hx
    exact P.gr s hs
theorem out_sz {ss:List S3} {L:Int} (P:Plan ss L) {h:Nat→Rat} (ne:fullS ss h≠[]) (i:Nat):SzQ 200 (outS ss h i):=by
  obtain ⟨S1,SL⟩:=sumF_ok P ne
  have W1:1≤L*sumF ss h:=by
    have:=Int.mul_le_mul_of_nonneg_left S1 (show 0≤L by have:=P.L1; omega)
    have:=P.L1
    omega
  exact one_sz W1 SL (out_gr P ne i) (by have:=(out_ok P ne i).1; grind) (out_ok P ne i).2
theorem fal_sz {ss:List S3} {L:Int} (P:Plan ss L) {h:Nat→Rat} (ne:fullS ss h≠[]) (i:Nat):SzQ 401 (falS ss h i):=(out_sz P ne i).sub (rt_sz P i)
end Sw
namespace L2
theorem EndS.uniq {ss:List Sw.S3} {m n:Nat} (a:EndS ss m) (b:EndS ss n):m=n:=by
  by_cases c:m<n
  · exact absurd a.no (b.go m c)
  · by_cases d:n<m
    · exact absurd b.no (a.go n d)
    · omega
def pilS (ss:List Sw.S3) (m i:Nat):Rat:=((List.range m).map fun k=>(Sw.crS ss k).1 i).foldl max 0
theorem max_fold:∀ (l:List Rat) (a:Rat),a≤l.foldl max a∧(∀ x∈l,x≤l.foldl max a)∧(l.foldl max a=a∨l.foldl max a∈l)
  | [],a=>⟨Rat.le_refl,fun x h=>absurd h List.not_mem_nil,.inl rfl⟩
  | y :: r,a=>by
    obtain ⟨h1,h2,h3⟩:=max_fold r (max a y)
    have m1:a≤max a y:=by rw [Rat.max_def]; split <;> grind
    have m2:y≤max a y:=by rw [Rat.max_def]; split <;> grind
    show a≤r.foldl max (max a y)∧(∀ x∈y :: r,x≤r.foldl max (max a y))∧(r.foldl max (max a y)=a∨r.foldl max (max a y)∈y :: r)
    refine ⟨by grind,fun x hx=>?_,?_⟩
    · rcases List.mem_cons.mp hx with z | z
      · subst z; grind
      · exact h2 x z
    · rcases h3 with z | z
      · rw [z,Rat.max_def]
        split
        · exact .inr (by simp)
        · exact .inl rfl
      · exact .inr (List.mem_cons_of_mem _ z)
end L2
namespace Sw
open L2
theorem EndSz {ss:List S3} {L:Int} (P:Plan ss L) {m:Nat} (en:EndS ss m) {k:Nat} (hk:k≤m):Pz ss k (crS ss k).1 (crS ss k).2∧(∀ i,SzQ 1200 ((crS ss k).1 i))∧SzQ 1200 (crS ss k).2:=by
  obtain ⟨z,_⟩:=cr_ok P k fun j hj=>en.go j (by omega)
  have:=P.n8
  have:=en.le
  exact ⟨z,z.sz (by omega)⟩
theorem tm_sz {ss:List S3} {L:Int} (P:Plan ss L) {h:Nat→Rat} (ne:fullS ss h≠[]) {k:Nat} {mo:Rat} (z:Pz ss k h mo) (hk:k≤8):(∀ i,SzQ 1200 (falS ss h i*tmS ss h))∧SzQ 1200 (tmS ss h):=by
  obtain ⟨_,D,M,D1,zD,M1,zM,fg,tg,t0,tM⟩:=z.step P ne
  have M0:(1:Rat)≤(M:Rat):=by
    have:=Rat.intCast_le_intCast.mpr M1
    exact this
  refine ⟨fun i=>?_,?_⟩
  · exact ((fg i).1.sz (by omega) zD zM (fg i).2.1 (fg i).2.2 (by omega)).mono (by omega)
  · exact (tg.sz (by omega) zD zM (by grind) tM (by omega)).mono (by omega)
end Sw
namespace L2
open PySem PySem.Spec PyProof.Rows
def snD (s:Sw.S3):PyData:=.tuple [.int s.1,.tuple [.int s.2.1,.tuple [.int s.2.2.num,.int (s.2.2.den:Int)]]]
end L2
namespace Sw
open L2
end Sw
namespace L2
open PySem PySem.Spec PyProof.Rows
theorem wpAny_newEnv_cell {M:Model} {A:Around} {E:Value→Shared→Prop} {s:Shared} {scope:Scope} {globals:Addr} {closure:List (Str×Addr)} {qual:Str} {func:Option Addr} {code:Value} {env:Env} {builtins:Addr} {Q:Env→Shared→Prop} {x0:Str}
    (hcs:∀ n,cellsFrom n scope.names closure=(x0,n) :: closure) (hpc:∀ h,pushCells h scope.names=h.push { cls:=.type "cell", data:=.cell none })
    (hQ:Q (newEnv scope s.heap.objs.size globals ((x0,s.heap.objs.size+1) :: closure) qual func code (some env) builtins) { s with heap:=(s.heap.push { cls:=.type "dict", data:=.dict #[] }).push { cls:=.type "cell", data:=.cell none } }) :
    wpAny M A (newFunctionEnv scope globals closure [] qual func code (some env) builtins) Q E s:=by
  simp only [newFunctionEnv,Option.isSome_some,if_true]
  refine wpAny_bind (wpAny_alloc ?_)
  refine wpAny_bind (wpAny_layCells _ (fun name kind cells=>by cases hkc:kind == NameKind.cell <;> simp [hkc]) _ _ _ _ ?_)
  rw [show ({ s with heap:=s.heap.push { cls:=.type "dict", data:=.dict #[] } }:Shared).heap.objs.size=s.heap.objs.size+1 from Heap.size_push ..]
  rw [hcs,hpc]
  refine wpAny_bind ?_
  rw [List.forIn_nil]
  exact wpAny_pure (wpAny_pure hQ)
def cxCompC (X:Cx) (scope:Scope) (cl:List (Str×Addr)) (x0:Str) (N:List Str) (fp:List Addr) (s:Shared) (H:Hp):Cx :=
  { cxComp X scope ((x0,s.heap.objs.size+1) :: cl) N fp s H with fn:=fun x=>x == x0 }
section
variable {X:Cx}
theorem cx_startC {scope:Scope} {cl:List (Str×Addr)} {x0:Str} {ts:List Str} {fr:List (Str×Nat)} {fp:List Addr} {pins:List (Addr×Obj)} {σ:St} {H:Hp} {s:Shared} {h':Heap} {m:Str→Option Value} {t':Nat} (I:Inv X pins σ H s)
    (hkind:scope.kind = .function) (hcl:∀ x c,cl.lookup x=some c→X.env.cells.lookup x=some c)
    (hhas:∀ x,((relabel scope X.env).names.lookup x=some .cell∨(relabel scope X.env).names.lookup x=some .free)→x=x0∨∃ c,cl.lookup x=some c) (hfr:FrOk X (relabel scope X.env) fr) (hne:∀ p∈fr,p.1≠x0)
    (hfp:∀ b∈fp,FpOk X pins H b∧b<s.heap.objs.size) (hn:h'.Ns s.heap.objs.size m) (hnc:h'.IsCell (s.heap.objs.size+1) none) (hk:∀ b o,s.heap.get? b=some o→h'.get? b=some o) :
    Inv (cxCompC X scope cl x0 (ts++fr.map (·.1)) fp s H) [] (List.replicate ts.length none++fr.map fun p=>(σ[p.2]?).join) H { s with heap:=h',toks:=t' }:=by
  have cellK:∀ c v,s.heap.IsCell c v→h'.IsCell c v:=fun c v ⟨o,ho,hd⟩=>⟨o,hk c o ho,hd⟩
  have two:∀ x c,((x0,s.heap.objs.size+1) :: cl).lookup x=some c→(x=x0∧c=s.heap.objs.size+1)∨(x≠x0∧cl.lookup x=some c):=fun x c h=>by
    rw [List.lookup_cons] at h
    cases hb:x == x0 with
    | true=>rw [hb] at h; cases h; exact .inl ⟨beq_iff_eq.mp hb,rfl⟩
    | false=>rw [hb] at h; exact .inr ⟨fun z=>by rw [z] at hb; simp at hb,h⟩
  have old:∀ x c,cl.lookup x=some c→c<s.heap.objs.size:=fun x c h=>by
    obtain ⟨v,z⟩:=I.cell x c (hcl x c h)
    exact z.lt
  refine ⟨⟨I.ok.mod,hkind,I.ok.glob,I.ok.blt,Nat.le_refl _,fun x y c h1 h2=>?_,fun x hx=>?_,fun x c hf h=>?_,I.ok.hd,I.ok.frames,.inl rfl,fun b hb=>?_,I.bs,Nat.le_trans I.ok.bsz I.sz,fun b o e hb=>?_,fun b hb z=>?_,I.stack,I.stkFree⟩,
    rfl,I.bare,Un.kept hk,⟨m,hn,fun i x v e1 e2 e3=>?_⟩,fun x c e=>?_,I.hok.fresh (Nat.le_refl _),fun x c e=>?_,fun p hp=>absurd (show p∈([]:List (Addr×Obj)) from hp) (by simp),I.hok.kept hk,?_⟩
  · rcases two x c h1 with ⟨a1,a2⟩ | ⟨a1,a2⟩ <;> rcases two y c h2 with ⟨b1,b2⟩ | ⟨b1,b2⟩
    · rw [a1,b1]
    · exact absurd (a2 ▸ old y c b2) (Nat.not_lt.mpr (Nat.le_succ _))
    · exact absurd (b2 ▸ old x c a2) (Nat.not_lt.mpr (Nat.le_succ _))
    · exact I.ok.inj x y c (hcl x c a2) (hcl y c b2)
  · rcases hhas x hx with z | ⟨c,z⟩
    · exact ⟨s.heap.objs.size+1,by show ((x0,s.heap.objs.size+1) :: cl).lookup x = _; rw [List.lookup_cons,z]; simp⟩
    · by_cases y:x=x0
      · exact ⟨s.heap.objs.size+1,by show ((x0,s.heap.objs.size+1) :: cl).lookup x = _; rw [List.lookup_cons,y]; simp⟩
      · refine ⟨c,?_⟩
        show ((x0,s.heap.objs.size+1) :: cl).lookup x = _
        rw [List.lookup_cons,show (x == x0)=false by simpa using y]
        exact z
  · have hf:(x == x0)=true:=hf
    rcases two x c h with ⟨a1,a2⟩ | ⟨a1,a2⟩
    · rw [a2]; exact Nat.le_succ _
    · exact absurd (beq_iff_eq.mp hf) a1
  · obtain ⟨f,lt⟩:=hfp b hb
    refine ⟨Nat.ne_of_lt lt,fun x c e=>?_⟩
    rcases two x c e with ⟨a1,a2⟩ | ⟨a1,a2⟩
    · rw [a2]; exact fun z=>absurd (z ▸ lt) (Nat.not_lt.mpr (Nat.le_succ _))
    · exact f.2.2.2.2.1 x c (hcl x c a2)
  · obtain ⟨f,lt⟩:=hfp b hb
    rcases f.2.2.2.1 with z | z
    · exact I.ok.noex b o e z
    · exact absurd (Nat.lt_of_lt_of_le (Heap.lt_size e) (Nat.le_trans I.ok.bsz z)) (Nat.lt_irrefl _)
  · obtain ⟨f,lt⟩:=hfp b hb
    rcases List.mem_cons.mp (I.stkSub b z) with y | y
    · exact f.2.1 y
    · exact f.2.2.1 y
  · have hlen:(List.replicate ts.length (none:Option V)).length=ts.length:=by simp
    by_cases hi:i<ts.length
    · rw [List.getElem?_append_left (by rw [hlen]; exact hi),List.getElem?_replicate,if_pos hi] at e2
      cases e2
    · rw [List.getElem?_append_right (by rw [hlen]; omega),hlen,List.getElem?_map] at e2
      have e1':(ts++fr.map (·.1))[i]? = some x:=e1
      rw [List.getElem?_append_right (by omega),List.getElem?_map] at e1'
      cases ep:fr[i-ts.length]? with
      | none=>rw [ep] at e2; cases e2
      | some p =>
        rw [ep] at e1' e2
        have ex:p.1=x:=Option.some.inj e1'
        have ev:(σ[p.2]?).join=some v:=Option.some.inj e2
        obtain ⟨a1,a2,a3⟩:=hfr.mem p (List.mem_of_getElem? ep)
        have ev':σ[p.2]? = some (some v):=by
          cases q:σ[p.2]? with
          | none=>rw [q] at ev; cases ev
          | some o=>rw [q] at ev; cases o with
            | none=>cases ev
            | some v'=>cases ev; rfl
        obtain ⟨m',hn',hl'⟩:=I.loc
        obtain ⟨u,ru,lk⟩:=hl' p.2 p.1 v a1 ev' (.inr (.inl a3))
        subst ex
        refine ⟨u,ru,?_⟩
        rcases lk with ⟨z,_⟩ | ⟨_,c,ec,z⟩
        · rw [z] at a3; cases a3
        · have np:=hne p (List.mem_of_getElem? ep)
          rcases hhas p.1 (.inl a2) with y | ⟨c',ec'⟩
          · exact absurd y np
          have ecc:c'=c:=Option.some.inj ((hcl _ _ ec').symm.trans ec)
          refine .inr ⟨.inl a2,c',?_,(by rw [ecc]; exact cellK _ _ z)⟩
          show ((x0,s.heap.objs.size+1) :: cl).lookup p.1 = _
          rw [List.lookup_cons,show (p.1 == x0)=false by simpa using np]
          exact ec'
  · rcases two x c e with ⟨a1,a2⟩ | ⟨a1,a2⟩
    · rw [a2]; exact ⟨none,hnc⟩
    · obtain ⟨v,z⟩:=I.cell x c (hcl x c a2)
      exact ⟨v,cellK _ _ z⟩
  · rcases two x c e with ⟨a1,a2⟩ | ⟨a1,a2⟩
    · rw [a2]; exact I.hok.fresh (Nat.le_succ _)
    · exact I.freeC x c (hcl x c a2)
  · show _=(ts++fr.map (·.1)).length
    simp
theorem pe_compC {x0:Str} {elt target iter:Expr} {ifs:List Expr} {scope:Scope} {pos:Pos} {cl:List (Str×Addr)} {ts:List Str} {fr:List (Str×Nat)} {wi:TI} {g:TG} {tc:TT} {te:TE} (hcalm:X.calm=true)
    (hclos:closureFor scope X.env=pure cl) (hcs:∀ n,cellsFrom n scope.names cl=(x0,n) :: cl) (hpc:∀ h,pushCells h scope.names=h.push { cls:=.type "cell", data:=.cell none }) (hkind:scope.kind = .function) (hnames:∀ y∈scope.names,y.2 = .local→scope.names.lookup y.1=some .local)
    (hcl:∀ x c,cl.lookup x=some c→X.env.cells.lookup x=some c)
    (hhas:∀ x,((relabel scope X.env).names.lookup x=some .cell∨(relabel scope X.env).names.lookup x=some .free)→x=x0∨∃ c,cl.lookup x=some c) (hfr:FrOk X (relabel scope X.env) fr) (hne:∀ p∈fr,p.1≠x0)
    (hi:PI X target iter wi) (hg:∀ fp s H,PG (cxCompC X scope cl x0 (ts++fr.map (·.1)) fp s H) target g) (hc:∀ fp s H,PIfs (cxCompC X scope cl x0 (ts++fr.map (·.1)) fp s H) ifs tc)
    (he:∀ fp s H,PE (cxCompC X scope cl x0 (ts++fr.map (·.1)) fp s H) elt te) (hs:∀ x,foldedSetIterable iter X.env x=pure x:=by intro _; rfl) :
    PE X (.ListComp elt [⟨target,iter,ifs,0⟩] scope pos) (tComp ts.length fr wi g tc te):=by
  intro pins s σ H Q I h
  rw [eval_ListComp]
  refine wpAny_comprehension_free (use:=none) rfl hs hclos hkind hnames (thn (hi pins s σ H _ I h) fun xv s1 h1=>thn h1 fun itv s2 h2=>?_)
  obtain ⟨it,fp,tn,J,H2,rfl,I2,T,st2,f2,hR⟩:=h2
  have D0:H2 s2.heap.objs.size=none:=I2.hok.fresh (Nat.le_refl _)
  obtain ⟨W,⟨m0,w0⟩,turn⟩:=hR s2.heap.objs.size D0
  refine wpAny_newObj_type (wpAny_newEnv_cell hcs hpc ?_)
  have I3:Inv X pins σ (upd H2 s2.heap.objs.size (.lst [])) { s2 with heap:=s2.heap.push { cls:=.type "list", dict:=none,data:=.seq ([]:List Value).toArray } } :=
    I2.laid (t':=s2.toks) (fun _ _ q=>Heap.get?_push_of_some _ q) (Nat.le_refl _) ⟨Nat.zero_le _,[],0,.nil,Heap.get?_push_size _ rfl⟩
  have kp3:∀ b o,s2.heap.get? b=some o→(s2.heap.push { cls:=.type "list", dict:=none,data:=.seq ([]:List Value).toArray }).get? b=some o:=fun b o q=>Heap.get?_push_of_some _ q
  have sz3:(s2.heap.push { cls:=.type "list", dict:=none,data:=.seq ([]:List Value).toArray }).objs.size=s2.heap.objs.size+1:=Heap.size_push ..
  generalize s2.heap.push { cls:=.type "list", dict:=none,data:=.seq ([]:List Value).toArray } = hp3 at I3 kp3 sz3 ⊢
  have kp:∀ b o,hp3.get? b=some o→((hp3.push { cls:=.type "dict", data:=.dict #[] }).push { cls:=.type "cell", data:=.cell none }).get? b=some o:=fun b o e=>Heap.get?_push_of_some _ (Heap.get?_push_of_some _ e)
  have hns₁:((hp3.push { cls:=.type "dict", data:=.dict #[] }).push { cls:=.type "cell", data:=.cell none }).Ns hp3.objs.size (fun _=>none):=(Heap.Ns.new hp3 (.type "dict")).keeps fun b o e=>Heap.get?_push_of_some _ e
  have hnc₁:((hp3.push { cls:=.type "dict", data:=.dict #[] }).push { cls:=.type "cell", data:=.cell none }).IsCell (hp3.objs.size+1) none:=⟨_,by
    have:=Heap.get?_push_size (hp3.push { cls:=.type "dict", data:=.dict #[] }) (o:={ cls:=.type "cell", data:=.cell none }) rfl
    rw [Heap.size_push] at this
    exact this,rfl⟩
  generalize (hp3.push { cls:=.type "dict", data:=.dict #[] }).push { cls:=.type "cell", data:=.cell none } = h₁ at kp hns₁ hnc₁ ⊢
  have flt:∀ b∈fp,b<s2.heap.objs.size:=fun b hb=>by
    obtain ⟨o,e,_⟩:=T.obj _ _ st2 b hb
    exact Heap.lt_size e
  have fr3:∀ b∈fp,(upd H2 s2.heap.objs.size (.lst [])) b=none:=fun b hb=>by rw [upd_ne (Nat.ne_of_lt (flt b hb))]; exact (f2 b hb).1
  have f3:∀ b∈fp,FpOk X pins (upd H2 s2.heap.objs.size (.lst [])) b∧b<hp3.objs.size:=fun b hb=>⟨⟨fr3 b hb,(f2 b hb).2⟩,by rw [sz3]; exact Nat.lt_succ_of_lt (flt b hb)⟩
  have I4:=cx_startC (ts:=ts) (t':=s2.toks) I3 hkind hcl hhas hfr hne f3 hns₁ hnc₁ kp
  have st4:tn 0 h₁:=T.keep _ _ _ st2 fun b hb o e=>kp b o (kp3 b o e)
  have loop:codeAny (model X.prog X.w) X.A (.compLoop (.ListComp elt [⟨target,iter,ifs,0⟩] scope pos) 0 (.ref it) (.ref s2.heap.objs.size) (compEnvC scope ((x0,hp3.objs.size+1) :: cl) hp3.objs.size X.env))
      (compPost (model X.prog X.w) X.A X.xe none (EP X pins σ Q) (.ref s2.heap.objs.size) hp3.objs.size) { s2 with heap:=h₁,toks:=s2.toks }:=by
    refine codeAny_compLoop_go (fun n s'=>∃ i τ H',Inv (cxCompC X scope cl x0 (ts++fr.map (·.1)) fp { s2 with heap:=hp3 } (upd H2 s2.heap.objs.size (.lst []))) [] τ H' s'∧tn i s'.heap∧(∀ b∈fp,H' b=none)∧W i n τ H') ?_ m0 ⟨0,_,_,I4,st4,fr3,w0⟩
    rintro n s5 ⟨i,τ,H5,I5,st5,fr5,w5⟩
    have stat:∀ {H':Hp},(∀ b∈fp,H' b=none)→∀ b∈fp,FpOk (cxCompC X scope cl x0 (ts++fr.map (·.1)) fp { s2 with heap:=hp3 } (upd H2 s2.heap.objs.size (.lst []))) [] H' b :=
      fun hn b hb=>⟨hn b hb,(I5.ok.exf b hb).1,I5.ok.exfs b hb,.inl hb,(I5.ok.exf b hb).2,fun p hp=>absurd (show p∈([]:List (Addr×Obj)) from hp) (by simp)⟩
    rcases turn i n τ H5 w5 with ⟨stop,qn⟩ | ⟨go,Nn,hN,step⟩
    · refine thn (T.done (cxCompC X scope cl x0 (ts++fr.map (·.1)) fp { s2 with heap:=hp3 } (upd H2 s2.heap.objs.size (.lst []))) rfl rfl rfl hcalm i [] s5 τ H5 _ I5 (stat fr5) st5 stop) fun r s6 ⟨hr,I6⟩=>?_
      subst hr
      obtain ⟨m,hn,_⟩:=I6.loc
      refine ⟨m,hn,fun h' hs'=>⟨.ref s2.heap.objs.size,H5,?_,rfl,qn⟩⟩
      have neC:∀ b o,hp3.get? b=some o→b≠hp3.objs.size:=fun b o e=>Nat.ne_of_lt (Heap.lt_size e)
      have hs'':Heap.SameBut hp3.objs.size s6.heap h':=hs'
      refine I3.call' (s':={ s6 with heap:=h' }) (ch:=fp) I6.os ⟨fun b o e n hb hx=>?_,fun b o e n hb hx=>?_,I6.base.free,fun b o e hx=>?_,I6.base.tups,I6.base.frzs,I6.base.tbls⟩ (fun b ob e=>?_) I6.bare (fun b hb=>?_)
      · exact (hs''.2 b (neC b o e)).trans (I6.base.keep b o e n hb hx)
      · obtain ⟨sl,q⟩:=I6.base.slot b o e n hb hx
        exact ⟨sl,(hs''.2 b (neC b o e)).trans q⟩
      · obtain ⟨o',q⟩:=I6.base.there b o e hx
        exact ⟨o',(hs''.2 b (neC b o e)).trans q⟩
      · refine (I6.hok b ob e).stay (fun c v hc q=>(hs''.2 c ?_).trans q) (fun _ q=>q) fun _ _ q=>q
        intro z
        have fz:H5 hp3.objs.size=none:=I6.free
        rcases hc with y | y
        · rw [← y,z,fz] at e; cases e
        · rw [z,fz] at y; cases y
      · exact ⟨(f2 b hb).2.2.2.1,(f2 b hb).2.1,(f2 b hb).2.2.2.2.1,(f2 b hb).2.2.2.2.2⟩
    · refine thn (T.item (cxCompC X scope cl x0 (ts++fr.map (·.1)) fp { s2 with heap:=hp3 } (upd H2 s2.heap.objs.size (.lst []))) rfl rfl rfl hcalm i [] s5 τ H5 _ I5 (stat fr5) st5 go) fun r s6 ⟨u,hr,h6⟩=>?_
      subst hr
      refine thn h6 fun _ s7 ⟨x,H7,I7,r7,y7,st7,fr7⟩=>?_
      have I7':=I7.pinned (stat fr7) (T.obj _ _ st7)
      refine wpAny_mono (hg fp _ _ _ s7 τ H7 x u _ I7' r7 (step x H7 y7)) (fun _ s8 ⟨τ8,H8,I8,q8⟩=>?_) fun _ _ z=>False.elim z
      have again:∀ {τ9:St} {H9:Hp} {s9:Shared},Inv (cxCompC X scope cl x0 (ts++fr.map (·.1)) fp { s2 with heap:=hp3 } (upd H2 s2.heap.objs.size (.lst []))) ([]++pinsAt fp s7.heap) τ9 H9 s9→Nn τ9 H9 →
          ∃ m,m<n∧∃ i τ H',Inv (cxCompC X scope cl x0 (ts++fr.map (·.1)) fp { s2 with heap:=hp3 } (upd H2 s2.heap.objs.size (.lst []))) [] τ H' s9∧tn i s9.heap∧(∀ b∈fp,H' b=none)∧W i m τ H':=fun {τ9 H9 s9} I9 n9=>by
        obtain ⟨m',hm,w9⟩:=hN τ9 H9 n9
        refine ⟨m',hm,i+1,τ9,H9,I9.unpinned,T.keep _ _ _ st7 fun b hb o e=>(I9.pin (b,o) (List.mem_append_right _ (List.mem_append_right _ (mem_pinsAt hb e)))).1,fun b hb=>?_,w9⟩
        obtain ⟨o,e,d⟩:=T.obj _ _ st7 b hb
        exact (I9.pin (b,o) (List.mem_append_right _ (List.mem_append_right _ (mem_pinsAt hb e)))).2.1
      refine wpAny_mono (hc fp _ _ _ s8 τ8 H8 _ I8 q8) (fun ok s9 ⟨H9,I9,q9⟩=>?_) fun _ _ z=>False.elim z
      cases ok with
      | false=>exact again I9 q9
      | true =>
        refine wpAny_mono (he fp _ _ _ s9 τ8 H9 _ I9 q9) (fun y s10 ⟨v,H10,I10,rv,ys,hD,hl,qN⟩=>?_) fun _ _ z=>False.elim z
        refine wpAny_mono (mt_append (X:=cxCompC X scope cl x0 (ts++fr.map (·.1)) fp { s2 with heap:=hp3 } (upd H2 s2.heap.objs.size (.lst []))) _ s10 τ8 H10 (.ref s2.heap.objs.size) [v] (.ref s2.heap.objs.size) [y] (fun _ H=>Nn τ8 H) I10 rfl (.cons rv .nil) ⟨_,ys,v,rfl,rfl,hD,hl,qN⟩) (fun _ s11 ⟨_,H11,I11,_,q11⟩=>again I11 q11) fun _ _ z=>False.elim z
  exact codeAny_compStart_list loop (T.self X.A 0 _ _ _ st4 loop)
theorem pe_lcC {elt target iter:Expr} {ifs:List Expr} {scope:Scope} {pos:Pos} {cl:List (Str×Addr)} (x0:Str) (ts:List Str) (fr:List (Str×Nat)) {wi:TI} {g:TG} {tc:TT} {te:TE} (hcalm:X.calm=true)
    (hclos:closureFor scope X.env=pure cl) (hcs:∀ n,cellsFrom n scope.names cl=(x0,n) :: cl) (hpc:∀ h,pushCells h scope.names=h.push { cls:=.type "cell", data:=.cell none }) (hkind:scope.kind = .function) (hnames:∀ y∈scope.names,y.2 = .local→scope.names.lookup y.1=some .local)
    (hcl:ClOk X.env cl) (hhas:clAll (relabel scope X.env).names ((x0,0) :: cl)=true) (hfr:FrOk X (relabel scope X.env) fr) (hne:fr.all (fun p=>p.1 != x0)=true)
    (hi:PI X target iter wi) (hg:∀ fp s H,PG (cxCompC X scope cl x0 (ts++fr.map (·.1)) fp s H) target g) (hc:∀ fp s H,PIfs (cxCompC X scope cl x0 (ts++fr.map (·.1)) fp s H) ifs tc)
    (he:∀ fp s H,PE (cxCompC X scope cl x0 (ts++fr.map (·.1)) fp s H) elt te) (hs:∀ x,foldedSetIterable iter X.env x=pure x:=by intro _; rfl) :
    PE X (.ListComp elt [⟨target,iter,ifs,0⟩] scope pos) (tComp ts.length fr wi g tc te) :=
  pe_compC hcalm hclos hcs hpc hkind hnames hcl.get (fun x q=>by
    obtain ⟨c,e⟩:=clAll_get hhas x q
    rw [List.lookup_cons] at e
    cases hb:x == x0 with
    | true=>exact .inl (beq_iff_eq.mp hb)
    | false=>rw [hb] at e; exact .inr ⟨c,e⟩) hfr (fun p hp=>by
    have:=List.all_eq_true.mp hne p hp
    simpa using this) hi hg hc he hs
end
end L2
namespace Sw
open L2
section
variable {ss:List S3}
def gnS (ss:List S3) (i:Nat):Nat→Rat
  | 0=>0
  | k+1=>gnS ss i k+outS ss (crS ss k).1 i*((crS ss (k+1)).2-(crS ss k).2)
def w1S (ss:List S3) (i k:Nat):Rat:=(crS ss k).2+((buS ss i:Rat)-gnS ss i k) / outS ss (crS ss k).1 i
def w2S (ss:List S3) (i k:Nat):Rat:=(crS ss (k+1)).2-(gnS ss i (k+1)-(buS ss i:Rat)) / rtS ss i
def wtS (ss:List S3) (i:Nat):Nat→List Rat
  | 0=>[]
  | k+1=>wtS ss i k++(if gnS ss i (k+1)<(buS ss i:Rat) then [] else (if gnS ss i k<(buS ss i:Rat) then [w1S ss i k] else [])++(if 0<rtS ss i then [w2S ss i k] else []))
def waS (ss:List S3) (m i:Nat):Rat:=(wtS ss i m).foldl max 0
theorem mo_nx (k:Nat):(crS ss (k+1)).2=(crS ss k).2+tmS ss (crS ss k).1:=rfl
theorem gn_heap (i:Nat):∀ k,(crS ss k).1 i=(buS ss i:Rat)+rtS ss i*(crS ss k).2-gnS ss i k
  | 0=>by show (buS ss i:Rat)=(buS ss i:Rat)+rtS ss i*0-0; grind
  | k+1=>by
    have ih:=gn_heap i k
    show (crS ss k).1 i-(outS ss (crS ss k).1 i-rtS ss i)*tmS ss (crS ss k).1=(buS ss i:Rat)+rtS ss i*((crS ss k).2+tmS ss (crS ss k).1)-(gnS ss i k+outS ss (crS ss k).1 i*((crS ss k).2+tmS ss (crS ss k).1-(crS ss k).2))
    rw [ih]; grind
theorem mem_wt {i:Nat} {x:Rat}:∀ {k:Nat},x∈wtS ss i k↔∃ j,j<k∧¬ gnS ss i (j+1)<(buS ss i:Rat)∧((gnS ss i j<(buS ss i:Rat)∧x=w1S ss i j)∨(0<rtS ss i∧x=w2S ss i j))
  | 0=>by
    constructor
    · intro h; cases h
    · rintro ⟨j,h,_⟩; omega
  | k+1=>by
    have ih:=mem_wt (i:=i) (x:=x) (k:=k)
    show x∈wtS ss i k++_↔_
    rw [List.mem_append,ih]
    constructor
    · rintro (⟨j,h,r⟩ | h)
      · exact ⟨j,by omega,r⟩
      · split at h
        · cases h
        · rename_i c
          refine ⟨k,by omega,c,?_⟩
          rcases List.mem_append.mp h with h | h
          · split at h
            · rename_i d; exact .inl ⟨d,List.mem_singleton.mp h⟩
            · cases h
          · split at h
            · rename_i d; exact .inr ⟨d,List.mem_singleton.mp h⟩
            · cases h
    · rintro ⟨j,h,c,r⟩
      by_cases e:j=k
      · subst e
        refine .inr ?_
        rw [if_neg c]
        rcases r with ⟨d,e⟩ | ⟨d,e⟩
        · exact List.mem_append.mpr (.inl (by rw [if_pos d,e]; simp))
        · exact List.mem_append.mpr (.inr (by rw [if_pos d,e]; simp))
      · exact .inl ⟨j,by omega,c,r⟩
variable {L:Int} {m:Nat}
theorem mo_lt_nx (P:Plan ss L) (en:EndS ss m) {k:Nat} (hk:k<m):(crS ss k).2<(crS ss (k+1)).2:=by
  obtain ⟨_,_,_,_,t0⟩:=tm_at P (en.go k hk)
  rw [mo_nx]; grind
theorem mo_le (P:Plan ss L) (en:EndS ss m):∀ {k j:Nat},j≤k→k≤m→(crS ss j).2≤(crS ss k).2
  | 0,j,h,_=>by
    have:j = 0:=by omega
    subst this; exact Rat.le_refl
  | k+1,j,h,hm=>by
    by_cases c:j=k+1
    · subst c; exact Rat.le_refl
    · have a:=mo_le P en (k:=k) (j:=j) (by omega) (by omega)
      have:=mo_lt_nx P en (k:=k) (by omega)
      grind
theorem gn_le_nx (P:Plan ss L) (en:EndS ss m) (i:Nat) {k:Nat} (hk:k<m):gnS ss i k≤gnS ss i (k+1):=by
  have a:=(out_ok P (en.go k hk) i).1
  have b:=mo_lt_nx P en hk
  have:=Rat.mul_nonneg a (show 0≤(crS ss (k+1)).2-(crS ss k).2 by grind)
  show gnS ss i k≤gnS ss i k+outS ss (crS ss k).1 i*((crS ss (k+1)).2-(crS ss k).2)
  grind
theorem gn_le (P:Plan ss L) (en:EndS ss m) (i:Nat):∀ {k j:Nat},j≤k→k≤m→gnS ss i j≤gnS ss i k
  | 0,j,h,_=>by
    have:j = 0:=by omega
    subst this; exact Rat.le_refl
  | k+1,j,h,hm=>by
    by_cases c:j=k+1
    · subst c; exact Rat.le_refl
    · have a:=gn_le P en i (k:=k) (j:=j) (by omega) (by omega)
      have:=gn_le_nx P en i (k:=k) (by omega)
      grind
theorem end_zero (en:EndS ss m) (P:Plan ss L) {i:Nat} (hi:i<ss.length):(crS ss m).1 i = 0:=by
  have z:=(EndSz P en (Nat.le_refl m)).1.h0 i
  have:¬ 0<(crS ss m).1 i:=fun y=>by
    have:=full_iff.mpr ⟨hi,y⟩
    rw [en.no] at this
    cases this
  grind
theorem burst_at (P:Plan ss L) (en:EndS ss m) {i:Nat} (hi:i<ss.length):∃ b,b<m∧gnS ss i b<(buS ss i:Rat)∧(buS ss i:Rat)≤gnS ss i (b+1):=by
  have b0:(0:Rat)<(buS ss i:Rat):=by
    obtain ⟨s,hs,_,e,_⟩:=at_mem hi
    rw [e]
    exact q_cast_pos (by have:=(P.b1 s hs).1; omega)
  have last:(buS ss i:Rat)≤gnS ss i m:=by
    have h:=gn_heap (ss:=ss) i m
    rw [end_zero en P hi] at h
    have:=Rat.mul_nonneg (rt_ge P i) (EndSz P en (Nat.le_refl m)).1.m0
    grind
  have go:∀ k,k≤m→(buS ss i:Rat)≤gnS ss i k→∃ b,b<k∧gnS ss i b<(buS ss i:Rat)∧(buS ss i:Rat)≤gnS ss i (b+1):=by
    intro k
    induction k with
    | zero =>
      intro _ h
      have:gnS ss i 0 = 0:=rfl
      grind
    | succ k ih =>
      intro hk h
      by_cases c:gnS ss i k<(buS ss i:Rat)
      · exact ⟨k,by omega,c,h⟩
      · obtain ⟨b,b1,b2⟩:=ih (by omega) (by grind)
        exact ⟨b,by omega,b2⟩
  exact go m (Nat.le_refl m) last
theorem tau_ok (P:Plan ss L) (en:EndS ss m) {i b:Nat} (hb:b<m) (h1:gnS ss i b<(buS ss i:Rat)) (h2:(buS ss i:Rat)≤gnS ss i (b+1)):0<outS ss (crS ss b).1 i∧(crS ss b).2<w1S ss i b∧w1S ss i b≤(crS ss (b+1)).2∧gnS ss i b+outS ss (crS ss b).1 i*(w1S ss i b-(crS ss b).2)=(buS ss i:Rat):=by
  have lt:=mo_lt_nx P en hb
  have o0:=(out_ok P (en.go b hb) i).1
  have h2':(buS ss i:Rat)≤gnS ss i b+outS ss (crS ss b).1 i*((crS ss (b+1)).2-(crS ss b).2):=h2
  have o1:0<outS ss (crS ss b).1 i:=by
    by_cases c:outS ss (crS ss b).1 i = 0
    · rw [c] at h2'; exfalso; grind
    · grind
  unfold w1S
  generalize outS ss (crS ss b).1 i=o at o0 o1 h2'
  generalize gnS ss i b=g at h1 h2'
  generalize (crS ss b).2=x at lt h2'
  generalize (crS ss (b+1)).2=y at lt h2'
  generalize (buS ss i:Rat)=u at h1 h2'
  have q0:=div_lt o1 (show 0<u-g by grind)
  have e0:(0:Rat) / o = 0:=by grind
  rw [e0] at q0
  have q1:=div_mono o1 (show u-g≤o*(y-x) by grind)
  have e1:o*(y-x) / o=y-x:=by
    have:o≠0:=by grind
    grind
  rw [e1] at q1
  refine ⟨o1,by grind,by grind,?_⟩
  have:o≠0:=by grind
  grind
end
end Sw
namespace Sw
open L2
section
variable {ss:List S3} {L:Int} {m:Nat}
theorem gn_sz (P:Plan ss L) (en:EndS ss m) {i k:Nat} (hi:i<ss.length) (hk:k≤m):SzQ 1200 (gnS ss i k):=by
  obtain ⟨z,_⟩:=EndSz P en hk
  obtain ⟨D,M,D1,zD,M1,zM,hg,mg,mM⟩:=z.ex
  have n8:=P.n8
  have le:=en.le
  have L1:=P.L1
  have L2':=P.L2
  obtain ⟨s,hs,_,eb,_⟩:=at_mem hi
  obtain ⟨u0,u1⟩:=P.b1 s hs
  rw [← eb] at u0 u1
  obtain ⟨a,ea⟩:=rt_gr P i
  have r0:=rt_ge P i
  have r1:=rt_le P i
  have h:=gn_heap (ss:=ss) i k
  have e:gnS ss i k=(buS ss i:Rat)+(crS ss k).2*(a:Rat) / (L:Rat)-(crS ss k).1 i:=by
    have:rtS ss i*(crS ss k).2=(crS ss k).2*(a:Rat) / (L:Rat):=by rw [ea]; grind
    grind
  have g:Grd (D*L) (gnS ss i k):=by
    rw [e]
    exact ((Grd.int (Int.mul_ne_zero (by omega) (by omega)) _).add ((mg.muli a).divi (by omega) (by omega))).sub ((hg i).1.more (by omega) (by omega))
  have g0:0≤gnS ss i k:=gn_le P en i (Nat.zero_le k) hk
  have rm:=Rat.mul_le_mul_of_nonneg_right r1 z.m0
  have hb:=z.h0 i
  have bq:(buS ss i:Rat)≤((1000000000000:Int):Rat):=Rat.intCast_le_intCast.mpr u1
  have zs:Sz (61*k+42) (M+1000000000000):=zM.add ((sz_of (a:=41) (by omega) (by simp only [Int.reducePow,Int.reduceLT])).mono (by omega))
  have zL:Sz 60 L:=sz_of (a:=60) (by omega) (by simp only [Int.reducePow]; omega)
  have M0:(0:Rat)≤(M:Rat):=Rat.intCast_nonneg.mpr (by omega)
  have eM:((M+1000000000000:Int):Rat)=(M:Rat)+((1000000000000:Int):Rat):=Rat.intCast_add ..
  have T0:(0:Rat)≤((1000000000000:Int):Rat):=Rat.intCast_nonneg.mpr (by omega)
  refine (g.sz (Int.mul_pos (by omega) (by omega)) (zD.mul zL) zs ?_ ?_ (by omega)).mono (by omega)
  · rw [eM]; grind
  · rw [eM]; grind
theorem w1_sz (P:Plan ss L) (en:EndS ss m) {i b:Nat} (hi:i<ss.length) (hb:b<m) (h1:gnS ss i b<(buS ss i:Rat)) (h2:(buS ss i:Rat)≤gnS ss i (b+1)):SzQ 1200 (w1S ss i b):=by
  obtain ⟨z,_⟩:=EndSz P en (show b≤m by omega)
  obtain ⟨z',_⟩:=EndSz P en (show b+1≤m by omega)
  obtain ⟨D,M,D1,zD,M1,zM,hg,mg,mM⟩:=z.ex
  obtain ⟨D',M',D1',zD',M1',zM',hg',mg',mM'⟩:=z'.ex
  have n8:=P.n8
  have le:=en.le
  have L1:=P.L1
  have L2':=P.L2
  obtain ⟨o1,t1,t2,t3⟩:=tau_ok P en hb h1 h2
  obtain ⟨a,ea⟩:=rt_gr P i
  have ne:=en.go b hb
  obtain ⟨S1,SLm⟩:=sumF_ok P ne
  obtain ⟨o,eo⟩:=out_gr P ne i
  have ol:=(out_ok P ne i).2
  have W1:1≤L*sumF ss (crS ss b).1:=by
    have:=Int.mul_le_mul_of_nonneg_left S1 (show 0≤L by omega)
    omega
  unfold w1S at t1 t2 ⊢
  generalize L*sumF ss (crS ss b).1=W at *
  have W0:(0:Rat)<(W:Rat):=q_cast_pos (by omega)
  have o0:0<o:=by
    by_cases c:0<o
    · exact c
    · exfalso
      have:=div_mono W0 (show (o:Rat)≤0 from by
        have:=Rat.intCast_le_intCast.mpr (show o≤0 by omega)
        exact this)
      have e:(0:Rat) / (W:Rat) = 0:=by grind
      grind
  have oW:o≤W:=by
    by_cases c:o≤W
    · exact c
    · exfalso
      have:=div_lt W0 (show (W:Rat)<(o:Rat) from Rat.intCast_lt_intCast.mpr (by omega))
      have e:(W:Rat) / (W:Rat) = 1:=by
        have:(W:Rat)≠0:=by grind
        grind
      grind
  have O0:(0:Rat)<(o:Rat):=q_cast_pos o0
  have h:=gn_heap (ss:=ss) i b
  have e1:(buS ss i:Rat)-gnS ss i b=(crS ss b).1 i-(crS ss b).2*(a:Rat) / (L:Rat):=by
    have:rtS ss i*(crS ss b).2=(crS ss b).2*(a:Rat) / (L:Rat):=by rw [ea]; grind
    grind
  have g1:Grd (D*L) ((buS ss i:Rat)-gnS ss i b):=by
    rw [e1]
    exact ((hg i).1.more (by omega) (by omega)).sub ((mg.muli a).divi (by omega) (by omega))
  have e2:((buS ss i:Rat)-gnS ss i b) / outS ss (crS ss b).1 i=((buS ss i:Rat)-gnS ss i b)*(W:Rat) / (o:Rat):=by
    rw [eo]
    have:(W:Rat)≠0:=by grind
    have:(o:Rat)≠0:=by grind
    grind
  have DL:D*L≠0:=Int.mul_ne_zero (by omega) (by omega)
  have g2:Grd (D*L*o) ((crS ss b).2+((buS ss i:Rat)-gnS ss i b) / outS ss (crS ss b).1 i):=by
    rw [e2]
    exact ((mg.more (by omega) (by omega)).more DL (by omega)).add ((g1.muli W).divi DL (by omega))
  have zL:Sz 60 L:=sz_of (a:=60) (by omega) (by simp only [Int.reducePow]; omega)
  have zo:Sz 60 o:=sz_of (a:=60) (by omega) (by simp only [Int.reducePow]; omega)
  have m0:=z.m0
  have M0:(0:Rat)≤(M':Rat):=Rat.intCast_nonneg.mpr (by omega)
  refine (g2.sz (Int.mul_pos (Int.mul_pos (by omega) (by omega)) o0) ((zD.mul zL).mul zo) zM' ?_ ?_ (by omega)).mono (by omega)
  · grind
  · grind
theorem w2_sz (P:Plan ss L) (en:EndS ss m) {i k:Nat} (hk:k<m) (r0:0<rtS ss i):SzQ 1200 (w2S ss i k):=by
  obtain ⟨z,_⟩:=EndSz P en (show k+1≤m by omega)
  obtain ⟨D,M,D1,zD,M1,zM,hg,mg,mM⟩:=z.ex
  have n8:=P.n8
  have le:=en.le
  have L1:=P.L1
  have L2':=P.L2
  obtain ⟨a,ea⟩:=rt_gr P i
  have r1:=rt_le P i
  have L0:(0:Rat)<(L:Rat):=q_cast_pos (by omega)
  have a0:0<a:=by
    by_cases c:0<a
    · exact c
    · exfalso
      have:=div_mono L0 (show (a:Rat)≤0 from by
        have:=Rat.intCast_le_intCast.mpr (show a≤0 by omega)
        exact this)
      have e:(0:Rat) / (L:Rat) = 0:=by grind
      grind
  have aL:a≤L:=by
    by_cases c:a≤L
    · exact c
    · exfalso
      have:=div_lt L0 (show (L:Rat)<(a:Rat) from Rat.intCast_lt_intCast.mpr (by omega))
      have e:(L:Rat) / (L:Rat) = 1:=by
        have:(L:Rat)≠0:=by grind
        grind
      grind
  have A0:(0:Rat)<(a:Rat):=q_cast_pos a0
  have e:w2S ss i k=(crS ss (k+1)).1 i*(L:Rat) / (a:Rat):=by
    have h:=gn_heap (ss:=ss) i (k+1)
    unfold w2S
    rw [h,ea]
    have:(L:Rat)≠0:=by grind
    have:(a:Rat)≠0:=by grind
    grind
  have g:Grd (D*a) (w2S ss i k):=by rw [e]; exact ((hg i).1.muli L).divi (by omega) (by omega)
  have hb:=z.h0 i
  have hL:=Rat.mul_nonneg hb (Rat.le_of_lt L0)
  have x0:0≤(crS ss (k+1)).1 i*(L:Rat) / (a:Rat):=by
    have:=div_mono A0 hL
    have e0:(0:Rat) / (a:Rat) = 0:=by grind
    rw [e0] at this
    exact this
  have x1:(crS ss (k+1)).1 i*(L:Rat) / (a:Rat)≤(crS ss (k+1)).1 i*(L:Rat):=by
    have a1:(1:Rat)≤(a:Rat):=by
      have:=Rat.intCast_le_intCast.mpr (show 1≤a by omega)
      exact this
    have:=Rat.mul_le_mul_of_nonneg_left a1 x0
    have e1:(crS ss (k+1)).1 i*(L:Rat) / (a:Rat)*(a:Rat)=(crS ss (k+1)).1 i*(L:Rat):=by
      have:(a:Rat)≠0:=by grind
      grind
    grind
  have x2:=Rat.mul_le_mul_of_nonneg_right (hg i).2 (Rat.le_of_lt L0)
  have zL:Sz 60 L:=sz_of (a:=60) (by omega) (by simp only [Int.reducePow]; omega)
  have za:Sz 60 a:=sz_of (a:=60) (by omega) (by simp only [Int.reducePow]; omega)
  have eM:((M*L:Int):Rat)=(M:Rat)*(L:Rat):=Rat.intCast_mul ..
  refine (g.sz (Int.mul_pos (by omega) a0) (zD.mul za) (zM.mul zL) ?_ ?_ (by omega)).mono (by omega)
  · rw [eM,e]; grind
  · rw [eM,e]; grind
theorem wt_sz (P:Plan ss L) (en:EndS ss m) {i:Nat} (hi:i<ss.length) {x:Rat} (hx:x∈wtS ss i m):SzQ 1200 x:=by
  obtain ⟨j,hj,c,r⟩:=mem_wt.mp hx
  rcases r with ⟨d,e⟩ | ⟨d,e⟩
  · rw [e]; exact w1_sz P en hi hj d (by grind)
  · rw [e]; exact w2_sz P en hj d
theorem wa_sz (P:Plan ss L) (en:EndS ss m) {i:Nat} (hi:i<ss.length):SzQ 1200 (waS ss m i):=by
  obtain ⟨_,_,f3⟩:=max_fold (wtS ss i m) 0
  have f3':waS ss m i = 0∨waS ss m i∈wtS ss i m:=f3
  rcases f3' with z | z
  · rw [z]; exact (SzQ.int (n:=0) (z:=4) (Sz.zero _)).mono (by decide)
  · exact wt_sz P en hi z
end
end Sw
namespace L2
open PySem PySem.Spec PyProof.Rows
section
variable {prog:Program} {w:World} {A:Around} {E:Value→Shared→Prop} {s:Shared}
end
section
variable {prog:Program} {w:World} {A:Around} {E:Value→Shared→Prop} {s:Shared}
end
section
variable {X:Cx}
end
end L2
namespace L2
open PySem PySem.Spec PyProof.Rows
end L2
namespace Sw
open L2
end Sw
namespace L2
open PySem PySem.Spec PyProof.Rows
def ms (H:Hp) (S:List Addr):Hp:=fun b=>if b∈S then none else H b
theorem upd_tup {H:Hp} {v b:Addr} {ys zs xs:List V} (h:H v=some (.lst zs)) (e:H b=some (.tup xs)):upd H v (.lst ys) b=some (.tup xs):=by
  rw [upd_ne (ne_of e h (by intro z; cases z))]; exact e
section
variable {ss:List Sw.S3} {l l1 tl hl kl pn:Addr} {ps cp hp kp S:List Addr} {xs:List (Nat×Addr)} {j:Nat} {g:Nat→Rat} {H H':Hp}
end
def fqD (q:Rat):PyData:=.tuple [.int q.num,.int (q.den:Int)]
end L2
namespace Sw
open L2
abbrev WI:=Nat×Q4×Rat×Rat
def wAt (i:WI):Int:=i.2.1.1
section
variable {s:Ti} {free:Int} {T G Qu:List WI} {D B:Int}
end
end Sw
namespace L2
open PySem PySem.Spec PyProof.Rows PySem.MeetsSeq
theorem vals_get:∀ {xs:List V} {us:List Value} {m:Nat} {u:Value},Vals xs us→us[m]? = some u→∃ x,xs[m]? = some x∧RelV x u
  | _,_,0,u,.cons r _,h=>by
    have:_=u:=Option.some.inj h
    subst this
    exact ⟨_,rfl,r⟩
  | _,_,m+1,u,.cons _ t,h=>by
    obtain ⟨x,h1,h2⟩:=vals_get (m:=m) t (by simpa using h)
    exact ⟨x,by simpa using h1,h2⟩
theorem deepAll_get {K:PySem.W.Frag} {H:Hp}:∀ {xs:List V} {ds:List PyData} {m:Nat} {x:V},DeepAll K H xs ds→xs[m]? = some x→∃ d,ds[m]? = some d∧Deep K H x d
  | _,_,0,x,.cons r _,h=>by
    have:_=x:=Option.some.inj h
    subst this
    exact ⟨_,rfl,r⟩
  | _,_,m+1,x,.cons _ t,h=>by
    obtain ⟨d,h1,h2⟩:=deepAll_get (m:=m) t (by simpa using h)
    exact ⟨d,by simpa using h1,h2⟩
section
variable {X:Cx}
end
end L2
namespace L2
open PySem PySem.Spec PyProof.Rows
theorem Room.units66 {k:Nat} {A:Around} (r:Room k A):A.units+66<cLine:=by have:=r.un; omega
section
variable {X:Cx}
end
end L2
namespace Sw
open L2
abbrev WS:=Int×List WI×List (Nat×Int)
def ctime (free:Int):List WI→Int
  | []=>free
  | i :: _=>if wAt i > free then wAt i else free
def goOn (lim:Option Int) (x:WS):Prop:=x.2.1≠[]∧∀ a,lim=some a→ctime x.1 x.2.1<a
instance (lim:Option Int) (x:WS):Decidable (goOn lim x):=by
  unfold goOn
  cases lim with
  | none=>exact decidable_of_iff (x.2.1≠[]) ⟨fun h=>⟨h,fun a e=>by cases e⟩,fun h=>h.1⟩
  | some b=>exact decidable_of_iff (x.2.1≠[]∧ctime x.1 x.2.1<b) ⟨fun h=>⟨h.1,fun a e=>by cases e; exact h.2⟩,fun h=>⟨h.1,h.2 b rfl⟩⟩
section
variable {s:Ti} {T G:List WI} {x:WS} {D B:Int}
end
end Sw
namespace L2
open PySem PySem.Spec PyProof.Rows
end L2
namespace Sw
open L2
section
variable {n:Nat} {M:Int} {a c:Nat} {s:Ti} {k:Nat} {T G:List WI} {D:Int} {x:WS}
end
end Sw
namespace Sw
open L2
section
variable {n:Nat} {M:Int} {a c:Nat} {qs:List Q4} {s:Ti} {k:Nat} {T G:List WI} {D:Int} {x:WS}
end
end Sw
namespace Sw
open L2
section
variable {n:Nat} {M:Int} {a c:Nat} {s:Ti} {t k:Nat} {T G:List WI} {D:Int} {x:WS}
end
end Sw
namespace Sw
open L2
section
variable {n:Nat} {M:Int} {a c:Nat} {s:Ti} {t k:Nat} {T G:List WI} {D:Int} {x:WS}
end
end Sw
namespace L2
open PySem PySem.Spec PyProof.Rows
section
variable {X:Cx}
end
section
variable {X:Cx} {pins:List (Addr×Obj)} {σ:St} {H:Hp} {s:Shared} {a vw:Addr} {kvs:List (Key×V)} {Q:VK}
end
end L2
namespace Sw
open L2
section
variable {fs:List F4} {w:Nat→Int}
theorem idle_ma {m:Nat} (h:hdP fs (stS fs m).1 (stS fs m).2 = []):(stS fs (m+1)).2=(stS fs m).2:=by
  show (nxS fs (stS fs m)).2 = _
  unfold nxS
  split
  · rfl
  · first | rfl | (rw [if_pos h])
structure St1 (fs:List F4) (k:Nat):Prop where
  lt:(stS fs k).1<(stS fs (k+1)).1
  ma:(stS fs (k+1)).2=(stS fs k).2+((stS fs (k+1)).1-(stS fs k).1) / (shP fs (hdP fs (stS fs k).1 (stS fs k).2):Rat)
  le:∀ (i:Nat) (f:F4),i∈hdP fs (stS fs k).1 (stS fs k).2→fs[i]? = some f→(stS fs (k+1)).2≤f.2.2.1
  way:(∃ i f,i∈hdP fs (stS fs k).1 (stS fs k).2∧fs[i]? = some f∧(stS fs (k+1)).2=f.2.2.1)∨∃ f∈fs,(stS fs (k+1)).1=(f.1:Rat)
  no:∀ f∈fs,¬ ((stS fs k).1<(f.1:Rat)∧(f.1:Rat)<(stS fs (k+1)).1)
theorem Run.st1 (R:Run fs w) {k:Nat} (h:hdP fs (stS fs k).1 (stS fs k).2≠[]):St1 fs k:=by
  have hc:=chA_ne h
  rcases stS_turn R.s1 k with ⟨z,_⟩ | ⟨_,t⟩
  · exact absurd z hc
  have ema:(stS fs (k+1)).2=(stS fs k).2+((stS fs (k+1)).1-(stS fs k).1) / (shP fs (hdP fs (stS fs k).1 (stS fs k).2):Rat):=by
    have:=ms_nx hc
    unfold ms at this
    rw [if_neg h] at this
    exact this.symm
  refine ⟨t.gt,ema,fun i f hi hf=>?_,?_,fun f hf ⟨h1,h2⟩=>?_⟩
  · have l1:=t.le h
    have l2:lstE fs (stS fs k).1 (stS fs k).2≤enP fs i:=minL_le (List.mem_map.mpr ⟨i,hi,rfl⟩)
    rw [enP_at hf] at l2
    exact Rat.le_trans l1 l2
  · rcases t.way with ⟨f,hf,_,e⟩ | ⟨_,_,e,_⟩
    · exact .inr ⟨f,hf,e⟩
    · left
      have mem:=minL_mem (l:=(hdP fs (stS fs k).1 (stS fs k).2).map (enP fs)) (by simpa using h)
      obtain ⟨i,hi,e2⟩:=List.mem_map.mp mem
      obtain ⟨f,e3,_⟩:=hdP_mem.mp hi
      exact ⟨i,f,hi,e3,by rw [e]; unfold lstE; rw [← e2,enP_at e3]⟩
  · have:=nx_le (fs:=fs) (k:=k) (x:=(f.1:Rat)) (by unfold chA; exact List.mem_append.mpr (.inl (chs_mem.mpr ⟨f,hf,h1,rfl⟩)))
    grind
end
end Sw
namespace L2
open PySem PySem.Spec PyProof.Rows
section
variable {X:Cx}
def anyD (ds:List PyData) (d:PyData):Bool:=ds.any fun e=>PyData.eqv e d
def rInD (K:PySem.W.Frag) (neg:Bool):R2:=fun x y H Q=>∃ p xs d ds,y = .ref p∧SqL K H p xs∧Deep K H x d∧PySem.SeqAt.shaped d=true∧DeepAll K H xs ds∧(∀ e∈ds,PySem.SeqAt.shaped e=true)∧Q (.bl (if neg then !anyD ds d else anyD ds d)) H
open Classical in
noncomputable def eqW (its:List Value) (ds:List PyData) (d:PyData) (w:Value):Bool:=decide (∃ (i:Nat) (e:PyData),its[i]? = some w∧ds[i]? = some e∧PyData.eqv e d=true)
open Classical in
theorem eqW_iff {its:List Value} {ds:List PyData} {d:PyData} {w:Value}:eqW its ds d w=true↔∃ (i:Nat) (e:PyData),its[i]? = some w∧ds[i]? = some e∧PyData.eqv e d=true:=by
  unfold eqW
  exact decide_eq_true_iff
theorem any_eqW {its:List Value} {ds:List PyData} {d:PyData} (hl:its.length=ds.length):its.toArray.any (eqW its ds d)=anyD ds d:=by
  rw [show its.toArray.any (eqW its ds d)=its.any (eqW its ds d) by simp,Bool.eq_iff_iff]
  unfold anyD
  rw [List.any_eq_true,List.any_eq_true]
  constructor
  · rintro ⟨w,_,h⟩
    obtain ⟨i,e,_,h2,h3⟩:=eqW_iff.mp h
    exact ⟨e,List.mem_of_getElem? h2,h3⟩
  · rintro ⟨e,he,h⟩
    obtain ⟨i,hi⟩:=List.getElem?_of_mem he
    have lt:=(List.getElem?_eq_some_iff.mp hi).1
    exact ⟨its[i]'(by omega),List.getElem_mem _,eqW_iff.mpr ⟨i,e,List.getElem?_eq_getElem _,hi,h⟩⟩
theorem deepAll_len {K:PySem.W.Frag} {H:Hp}:∀ {xs:List V} {ds:List PyData},DeepAll K H xs ds→xs.length=ds.length
  | _,_,.nil=>rfl
  | _,_,.cons _ t=>by rw [List.length_cons,List.length_cons,deepAll_len t]
theorem eq_items {pins:List (Addr×Obj)} {σ:St} {H:Hp} {s:Shared} {x:V} {v:Value} {xs:List V} {its:List Value} {d:PyData} {ds:List PyData} (I:Inv X pins σ H s) (hu:X.A.units+66<cLine) (rx:RelV x v) (r:Vals xs its) (dx:Deep X.K H x d) (sd:PySem.SeqAt.shaped d=true) (da:DeepAll X.K H xs ds) (sa:∀ e∈ds,PySem.SeqAt.shaped e=true) :
    ∀ w,w∈its.toArray→SeqAt.EqAt X.A.in1 s w v (eqW its ds d w):=fun w hw=>by
  have hw:w∈its:=by simpa using hw
  obtain ⟨as,ra⟩:=deep_reads I dx rx
  have one:∀ i e,its[i]? = some w→ds[i]? = some e→SeqAt.EqAt X.A.in1 s w v (PyData.eqv e d):=fun i e h1 h2=>by
    obtain ⟨y,h3,h4⟩:=vals_get r h1
    obtain ⟨e',h5,h6⟩:=deepAll_get da h3
    rw [h2] at h5
    cases h5
    obtain ⟨bs,rb⟩:=deep_reads I h6 h4
    have se:=sa e (List.mem_of_getElem? h2)
    exact SeqAt.eqAt_reads e d X.A.in1 s _ _ bs as rb ra (PySem.SeqAt.canLay_of_shaped se) (PySem.SeqAt.canLay_of_shaped sd) (PySem.SeqAt.room_of_shaped se (by show X.A.units+1+64<cLine; omega))
  have hl:its.length=ds.length:=by rw [← r.length]; exact deepAll_len da
  by_cases c:eqW its ds d w=true
  · rw [c]
    obtain ⟨i,e,h1,h2,h3⟩:=eqW_iff.mp c
    rw [← h3]
    exact one i e h1 h2
  · obtain ⟨i,hi⟩:=List.getElem?_of_mem hw
    have lt:=(List.getElem?_eq_some_iff.mp hi).1
    have h2:ds[i]? = some (ds[i]'(by omega)):=List.getElem?_eq_getElem _
    have h3:PyData.eqv (ds[i]'(by omega)) d=false:=by
      cases z:PyData.eqv (ds[i]'(by omega)) d with
      | false=>rfl
      | true=>exact absurd (eqW_iff.mpr ⟨i,_,hi,h2,z⟩) c
    have c':eqW its ds d w=false:=by cases z:eqW its ds d w with
      | false=>rfl
      | true=>exact absurd z c
    rw [c',← h3]
    exact one i _ hi h2
theorem op_inD (K:PySem.W.Frag) (h:X.K=K) (hu:X.A.units+66<cLine):OpR X (compareOp .In) (rInD K false):=by
  subst h
  intro pins s σ H x y v u Q I rx ry h
  obtain ⟨p,xs,d,ds,rfl,hq,dx,sd,da,sa,q⟩:=h
  cases ry
  obtain ⟨its,r,pl,hz⟩:=I.list hq
  refine SeqAt.in_listAt (eqW its ds d) pl.isList (eq_items I hu rx r dx sd da sa) ⟨.bl _,H,I,rfl,?_⟩
  rw [any_eqW (by rw [← r.length]; exact deepAll_len da)]
  exact q
end
end L2
namespace L2
open PySem PySem.Spec PyProof.Rows
section
variable {X:Cx}
end
end L2
namespace Sw
open L2
def hL (qs:List Q4) (dn:List Nat) (mo:Rat):Nat→List Nat
  | 0=>[]
  | i+1=>match qs[i]? with
    | some q=>if i ∉ dn∧q.2.1 ∉ (hL qs dn mo i).map (whoAt qs)∧(q.1:Rat)≤mo then hL qs dn mo i++[i] else hL qs dn mo i
    | none=>hL qs dn mo i
end Sw
namespace Sw
open L2
section
variable {fs:List F4} {w:Nat→Int}
theorem tq_filter {α:Type} (p:α→Bool) (f:α→Rat):∀ l:List α,tq ((l.filter p).map f)=tq (l.map fun x=>if p x=true then f x else 0)
  | []=>rfl
  | x :: r=>by
    rw [List.filter_cons,List.map_cons]
    show _=(if p x=true then f x else 0)+tq (r.map fun x=>if p x=true then f x else 0)
    rw [← tq_filter p f r]
    by_cases c:p x=true
    · rw [if_pos c,if_pos c]; rfl
    · rw [if_neg c,if_neg c]; grind
theorem tq_add {α:Type} (f g:α→Rat):∀ l:List α,tq (l.map fun x=>f x+g x)=tq (l.map f)+tq (l.map g)
  | []=>by show (0:Rat) = 0+0; grind
  | x :: r=>by
    show f x+g x+tq (r.map fun x=>f x+g x)=f x+tq (r.map f)+(g x+tq (r.map g))
    rw [tq_add f g r]
    grind
theorem tq_congr {α:Type} {f g:α→Rat} {l:List α} (h:∀ x∈l,f x=g x):tq (l.map f)=tq (l.map g):=by rw [List.map_congr_left h]
theorem tq_zero {α:Type}:∀ l:List α,tq (l.map fun _=>(0:Rat)) = 0
  | []=>rfl
  | _ :: r=>by show (0:Rat)+tq (r.map fun _=>(0:Rat)) = 0; rw [tq_zero r]; grind
theorem tq_swap {α β:Type} (f:α→β→Rat) (m:List β):∀ l:List α,tq (l.map fun x=>tq (m.map fun y=>f x y))=tq (m.map fun y=>tq (l.map fun x=>f x y))
  | []=>(tq_zero m).symm
  | x :: r=>by
    show tq (m.map fun y=>f x y)+tq (r.map fun x=>tq (m.map fun y=>f x y))=tq (m.map fun y=>f x y+tq (r.map fun x=>f x y))
    rw [tq_swap f m r,tq_add]
theorem tq_pick {α:Type} [DecidableEq α] {a:Rat} {u:α}:∀ {ws:List α},ws.Nodup→u∈ws→tq (ws.map fun x=>if u=x then a else 0)=a
  | [],_,h=>by cases h
  | x :: r,nd,h=>by
    obtain ⟨n1,n2⟩:=List.nodup_cons.mp nd
    show (if u=x then a else 0)+tq (r.map fun x=>if u=x then a else 0)=a
    by_cases c:u=x
    · subst c
      have z:tq (r.map fun x=>if u=x then a else 0) = 0:=(tq_congr fun y hy=>by rw [if_neg (fun e=>n1 (by rw [e]; exact hy))]).trans (tq_zero r)
      rw [if_pos rfl,z]; grind
    · rw [if_neg c,tq_pick n2 ((List.mem_cons.mp h).resolve_left c)]; grind
theorem tq_mul {α:Type} (f:α→Rat) (c:Rat):∀ l:List α,tq (l.map fun x=>f x*c)=tq (l.map f)*c
  | []=>by show (0:Rat) = 0*c; grind
  | x :: r=>by
    show f x*c+tq (r.map fun x=>f x*c)=(f x+tq (r.map f))*c
    rw [tq_mul f c r]; grind
theorem tq_cast (f:Nat→Int):∀ l:List Nat,tq (l.map fun i=>(f i:Rat))=((l.map f).sum:Rat)
  | []=>rfl
  | x :: r=>by
    show (f x:Rat)+tq (r.map fun i=>(f i:Rat))=((f x+(r.map f).sum:Int):Rat)
    rw [tq_cast f r,Rat.intCast_add]
end
end Sw
namespace Sw
open L2
section
variable {n:Nat} {M:Int} {a c:Nat} {fs:List F4} {D:Int} {w:Nat→Int}
theorem spans_take {en:Int→Option Rat}:∀ {l:List Q4} {i j:Nat} {ah:Int→Option Rat},spansF en i ah (l.take j)=(spansF en i ah l).take j
  | _,_,0,_=>by simp [spansF]
  | [],_,_ + 1,_=>rfl
  | q :: r,i,j+1,ah=>by
    show _ :: spansF en (i+1) _ (r.take j) = _
    rw [spans_take]
    rfl
end
end Sw
namespace Sw
open L2
section
variable {qs:List Q4} {k:Nat} {dr:List Nat} {x:WS} {s:Ti}
end
section
variable {n:Nat} {M:Int} {a c:Nat} {rm:Int→Option Int} {qs:List Q4}
theorem Good.l0 (g:Good n M a c qs):∀ q∈qs,0≤q.2.2.1:=fun q hq=>by have:=(g.pc q hq).2.2.1; omega
end
end Sw
namespace L2
open PySem PySem.Spec PyProof.Rows
section
variable {X:Cx}
end
section
variable {X:Cx}
end
end L2
namespace L2
open PySem PySem.Spec PyProof.Rows
section
variable {X:Cx}
end
end L2
namespace Sw
open L2
section
variable {fs:List F4} {w:Nat→Int}
end
end Sw
namespace Sw
open L2
end Sw
namespace Sw
open L2
section
variable {n:Nat} {M:Int} {a c:Nat} {T:List WI}
end
end Sw
namespace Sw
open L2
section
variable {n:Nat} {M:Int} {a c:Nat} {rm:Int→Option Int} {qs:List Q4}
end
end Sw
namespace L2
open PySem PySem.Spec PyProof.Rows PySem.MeetsSeq
section
variable {X:Cx}
end
end L2
namespace Sw
open L2
end Sw
namespace Sw
open L2
section
variable {n:Nat} {M:Int} {a c:Nat} {qs:List Q4}
theorem fs_len (qs:List Q4):(fsOf qs (Ti.nil.tags qs)).length=qs.length:=fsOf_len Ti.tags_len
end
end Sw
namespace Sw
open L2
section
variable {ss:List S3} {L:Int} {m:Nat}
def eS (ss:List S3) (i:Nat):Rat:=(buS ss i:Rat) / (shS ss i:Rat)
def FS (ss:List S3) (x:Rat):Rat:=tq ((List.range ss.length).map fun j=>(shS ss j:Rat)*min x (eS ss j))
def muS (ss:List S3):Nat→Rat
  | 0=>0
  | k+1=>muS ss k+tmS ss (crS ss k).1 / (sumF ss (crS ss k).1:Rat)
theorem sh_posR (P:Plan ss L) {i:Nat} (hi:i<ss.length):(0:Rat)<(shS ss i:Rat):=by
  obtain ⟨s,hs,e,_,_⟩:=at_mem hi
  rw [e]
  exact q_cast_pos (by have:=P.s1 s hs; omega)
theorem bu_posR (P:Plan ss L) {i:Nat} (hi:i<ss.length):(0:Rat)<(buS ss i:Rat):=by
  obtain ⟨s,hs,_,e,_⟩:=at_mem hi
  rw [e]
  exact q_cast_pos (by have:=(P.b1 s hs).1; omega)
theorem bu_sh (P:Plan ss L) {i:Nat} (hi:i<ss.length):(shS ss i:Rat)*eS ss i=(buS ss i:Rat)∧0<eS ss i:=by
  have s0:=sh_posR P hi
  have b0:=bu_posR P hi
  unfold eS
  have ne:(shS ss i:Rat)≠0:=by grind
  have e:(shS ss i:Rat)*((buS ss i:Rat) / (shS ss i:Rat))=(buS ss i:Rat):=by grind
  refine ⟨e,?_⟩
  have:=div_lt s0 b0
  have z:(0:Rat) / (shS ss i:Rat) = 0:=by grind
  rw [z] at this
  exact this
theorem left_one (r0:∀ i,rtS ss i = 0) (h:Nat→Rat):leftS ss h = 1:=by
  unfold leftS restS
  have:tq (((List.range ss.length).filter fun i=>!decide (i∈fullS ss h)).map (rtS ss)) = 0:=by
    have e:((List.range ss.length).filter fun i=>!decide (i∈fullS ss h)).map (rtS ss)=((List.range ss.length).filter fun i=>!decide (i∈fullS ss h)).map fun _=>(0:Rat):=List.map_congr_left fun i _=>r0 i
    rw [e,tq_zero]
  rw [this]
  grind
theorem fal_full (r0:∀ i,rtS ss i = 0) {h:Nat→Rat} {i:Nat} (c:i∈fullS ss h):falS ss h i=(shS ss i:Rat) / (sumF ss h:Rat)∧outS ss h i=(shS ss i:Rat) / (sumF ss h:Rat):=by
  unfold falS outS
  rw [if_pos c,left_one r0,r0 i]
  constructor <;> grind
structure BSt (ss:List S3) (k:Nat):Prop where
  m0:0≤muS ss k
  hp:∀ i,i<ss.length→(crS ss k).1 i=(shS ss i:Rat)*(eS ss i-min (muS ss k) (eS ss i))
  mo:(crS ss k).2=FS ss (muS ss k)
theorem FS_zero (P:Plan ss L):FS ss 0 = 0:=by
  unfold FS
  have e:((List.range ss.length).map fun j=>(shS ss j:Rat)*min 0 (eS ss j))=(List.range ss.length).map fun _=>(0:Rat):=List.map_congr_left fun j hj=>by
    have:=(bu_sh P (List.mem_range.mp hj)).2
    rw [Rat.min_def,if_pos (by grind)]
    grind
  rw [e,tq_zero]
theorem BSt.nil (P:Plan ss L):BSt ss 0:=by
  refine ⟨Rat.le_refl,fun i hi=>?_,(FS_zero P).symm⟩
  obtain ⟨b,e0⟩:=bu_sh P hi
  show (buS ss i:Rat)=(shS ss i:Rat)*(eS ss i-min 0 (eS ss i))
  rw [Rat.min_def,if_pos (by grind),← b]
  grind
theorem BSt.full {k:Nat} (P:Plan ss L) (h:BSt ss k) {i:Nat}:i∈fullS ss (crS ss k).1↔i<ss.length∧muS ss k<eS ss i:=by
  rw [full_iff]
  constructor
  · rintro ⟨a,b⟩
    refine ⟨a,?_⟩
    rw [h.hp i a] at b
    by_cases c:muS ss k<eS ss i
    · exact c
    · have e1:min (muS ss k) (eS ss i)=eS ss i:=by rw [Rat.min_def]; split <;> grind
      rw [e1] at b
      grind
  · rintro ⟨a,b⟩
    refine ⟨a,?_⟩
    rw [h.hp i a,Rat.min_def,if_pos (by grind)]
    exact Rat.mul_pos (sh_posR P a) (by grind)
theorem BSt.step {k:Nat} (P:Plan ss L) (r0:∀ i,rtS ss i = 0) (h:BSt ss k) (ne:fullS ss (crS ss k).1≠[]):BSt ss (k+1)∧muS ss k<muS ss (k+1)∧(∀ i∈fullS ss (crS ss k).1,muS ss (k+1)≤eS ss i)∧tmS ss (crS ss k).1=(muS ss (k+1)-muS ss k)*(sumF ss (crS ss k).1:Rat):=by
  have S1:=(sumF_ok P ne).1
  have S0:(0:Rat)<(sumF ss (crS ss k).1:Rat):=q_cast_pos (by omega)
  have Sn:(sumF ss (crS ss k).1:Rat)≠0:=by grind
  obtain ⟨j,hj,f0,te,t0⟩:=tm_at P ne
  have mu':muS ss (k+1)=muS ss k+tmS ss (crS ss k).1 / (sumF ss (crS ss k).1:Rat):=rfl
  have te2:tmS ss (crS ss k).1=(muS ss (k+1)-muS ss k)*(sumF ss (crS ss k).1:Rat):=by rw [mu']; grind
  have tf:∀ i∈fullS ss (crS ss k).1,(crS ss k).1 i / falS ss (crS ss k).1 i=(eS ss i-muS ss k)*(sumF ss (crS ss k).1:Rat):=fun i hi=>by
    obtain ⟨a,b⟩:=(h.full P).mp hi
    have s0:=sh_posR P a
    have sn:(shS ss i:Rat)≠0:=by grind
    rw [(fal_full r0 hi).1,h.hp i a,Rat.min_def,if_pos (by grind)]
    grind
  have lt:muS ss k<muS ss (k+1):=by
    have:=div_lt S0 t0
    have z:(0:Rat) / (sumF ss (crS ss k).1:Rat) = 0:=by grind
    rw [z] at this
    grind
  have le:∀ i∈fullS ss (crS ss k).1,muS ss (k+1)≤eS ss i:=fun i hi=>by
    obtain ⟨a,b⟩:=(h.full P).mp hi
    have s0:=sh_posR P a
    have fi:0<falS ss (crS ss k).1 i:=by
      rw [(fal_full r0 hi).1]
      have:=div_lt S0 s0
      have z:(0:Rat) / (sumF ss (crS ss k).1:Rat) = 0:=by grind
      rw [z] at this
      exact this
    have:=minL_le (l:=tmsS ss (crS ss k).1) (tms_mem.mpr ⟨i,a,fi,rfl⟩)
    rw [tf i hi] at this
    have this:tmS ss (crS ss k).1≤(eS ss i-muS ss k)*(sumF ss (crS ss k).1:Rat):=this
    rw [te2] at this
    have:=Rat.le_of_mul_le_mul_right this S0
    grind
  refine ⟨⟨by have:=h.m0; grind,fun i hi=>?_,?_⟩,lt,le,te2⟩
  · show (crS ss k).1 i-falS ss (crS ss k).1 i*tmS ss (crS ss k).1 = _
    by_cases c:i∈fullS ss (crS ss k).1
    · have l1:=le i c
      obtain ⟨_,b⟩:=(h.full P).mp c
      rw [(fal_full r0 c).1,h.hp i hi,te2]
      rw [Rat.min_def,if_pos (by grind),Rat.min_def,if_pos l1]
      grind
    · have nb:eS ss i≤muS ss k:=by
        by_cases z:muS ss k<eS ss i
        · exact absurd ((h.full P).mpr ⟨hi,z⟩) c
        · grind
      rw [fal_out c,h.hp i hi]
      have e1:min (muS ss k) (eS ss i)=eS ss i:=by rw [Rat.min_def]; split <;> grind
      have e2:min (muS ss (k+1)) (eS ss i)=eS ss i:=by rw [Rat.min_def]; split <;> grind
      rw [e1,e2]
      grind
  · show (crS ss k).2+tmS ss (crS ss k).1 = _
    rw [h.mo,te2]
    have d:FS ss (muS ss (k+1))-FS ss (muS ss k)=(muS ss (k+1)-muS ss k)*(sumF ss (crS ss k).1:Rat):=by
      unfold FS
      rw [← tq_sub]
      have e:((List.range ss.length).map fun i=>(shS ss i:Rat)*min (muS ss (k+1)) (eS ss i)-(shS ss i:Rat)*min (muS ss k) (eS ss i))=(List.range ss.length).map fun i=>if (decide (0<(crS ss k).1 i))=true then (shS ss i:Rat)*(muS ss (k+1)-muS ss k) else 0:=List.map_congr_left fun i hi=>by
        have hi:=List.mem_range.mp hi
        by_cases c:0<(crS ss k).1 i
        · rw [if_pos (decide_eq_true c)]
          have cf:=full_iff.mpr ⟨hi,c⟩
          have l1:=le i cf
          obtain ⟨_,b⟩:=(h.full P).mp cf
          rw [Rat.min_def,if_pos l1,Rat.min_def,if_pos (by grind)]
          grind
        · rw [if_neg (by simpa using c)]
          have nb:eS ss i≤muS ss k:=by
            by_cases z:muS ss k<eS ss i
            · exact absurd (full_iff.mp ((h.full P).mpr ⟨hi,z⟩)).2 c
            · grind
          have e1:min (muS ss k) (eS ss i)=eS ss i:=by rw [Rat.min_def]; split <;> grind
          have e2:min (muS ss (k+1)) (eS ss i)=eS ss i:=by rw [Rat.min_def]; split <;> grind
          rw [e1,e2]
          grind
      rw [e,← tq_filter,tq_mul,tq_cast]
      show ((sumF ss (crS ss k).1:Int):Rat) * _ = _
      grind
    grind
theorem bst (P:Plan ss L) (r0:∀ i,rtS ss i = 0) (en:EndS ss m):∀ k,k≤m→BSt ss k
  | 0,_=>BSt.nil P
  | k+1,h=>((bst P r0 en k (by omega)).step P r0 (en.go k (by omega))).1
theorem burst_wait (P:Plan ss L) (r0:∀ i,rtS ss i = 0) (en:EndS ss m) {i:Nat} (hi:i<ss.length):waS ss m i=FS ss (eS ss i):=by
  have gh:∀ k,(crS ss k).1 i=(buS ss i:Rat)-gnS ss i k:=fun k=>by
    have:=gn_heap (ss:=ss) i k
    rw [r0 i] at this
    grind
  obtain ⟨be,e0⟩:=bu_sh P hi
  have s0:=sh_posR P hi
  have all:∀ x∈wtS ss i m,x=FS ss (eS ss i)∧0<x:=fun x hx=>by
    obtain ⟨j,hj,h1,h2⟩:=mem_wt.mp hx
    rcases h2 with ⟨h2,rfl⟩ | ⟨h2,_⟩
    · have B:=bst P r0 en j (by omega)
      obtain ⟨B',lt,le,te⟩:=B.step P r0 (en.go j hj)
      have fu:i∈fullS ss (crS ss j).1:=full_iff.mpr ⟨hi,by rw [gh j]; grind⟩
      obtain ⟨_,mu⟩:=(B.full P).mp fu
      have l1:=le i fu
      have z:=B'.hp i hi
      rw [gh (j+1),Rat.min_def,if_pos l1] at z
      have e1:muS ss (j+1)=eS ss i:=by
        by_cases c:muS ss (j+1)<eS ss i
        · have:=Rat.mul_pos s0 (show 0<eS ss i-muS ss (j+1) by grind)
          grind
        · grind
      have S1:=(sumF_ok P (en.go j hj)).1
      have S0:(0:Rat)<(sumF ss (crS ss j).1:Rat):=q_cast_pos (by omega)
      have w:w1S ss i j=(crS ss (j+1)).2:=by
        unfold w1S
        rw [mo_nx,te,(fal_full r0 fu).2]
        have hj':=B.hp i hi
        rw [gh j,Rat.min_def,if_pos (by grind)] at hj'
        rw [hj',e1]
        have:(sumF ss (crS ss j).1:Rat)≠0:=by grind
        have:(shS ss i:Rat)≠0:=by grind
        grind
      rw [w]
      refine ⟨by rw [B'.mo,e1],?_⟩
      have m1:=mo_lt_nx P en hj
      have m2:=mo_le P en (Nat.zero_le j) (by omega)
      have m3:(crS ss 0).2 = 0:=rfl
      grind
    · rw [r0 i] at h2
      exact absurd h2 (by decide)
  obtain ⟨b,hb,h1,h2⟩:=burst_at P en hi
  have mem:w1S ss i b∈wtS ss i m:=mem_wt.mpr ⟨b,hb,by grind,.inl ⟨h1,rfl⟩⟩
  unfold waS
  obtain ⟨x1,x2,x3⟩:=max_fold (wtS ss i m) 0
  obtain ⟨y1,y2⟩:=all _ mem
  have y3:=x2 _ mem
  rcases x3 with z | z
  · grind
  · exact (all _ z).1
theorem burst_pile (P:Plan ss L) (r0:∀ i,rtS ss i = 0) (en:EndS ss m) {i:Nat} (hi:i<ss.length):pilS ss m i=(buS ss i:Rat):=by
  have m0:0<m:=by
    rcases Nat.eq_zero_or_pos m with z | z
    · exfalso
      have:=end_zero en P hi
      rw [z] at this
      have b0:=bu_posR P hi
      have e:(crS ss 0).1 i=(buS ss i:Rat):=rfl
      grind
    · exact z
  unfold pilS
  obtain ⟨x1,x2,x3⟩:=max_fold ((List.range m).map fun k=>(crS ss k).1 i) 0
  have b0:=bu_posR P hi
  have top:(buS ss i:Rat)≤((List.range m).map fun k=>(crS ss k).1 i).foldl max 0:=x2 _ (List.mem_map.mpr ⟨0,List.mem_range.mpr m0,rfl⟩)
  have le:∀ x∈(List.range m).map fun k=>(crS ss k).1 i,x≤(buS ss i:Rat):=fun x hx=>by
    obtain ⟨k,hk,rfl⟩:=List.mem_map.mp hx
    have B:=bst P r0 en k (by have:=List.mem_range.mp hk; omega)
    obtain ⟨be,e0⟩:=bu_sh P hi
    have s0:=sh_posR P hi
    rw [B.hp i hi]
    have:0≤min (muS ss k) (eS ss i):=by rw [Rat.min_def]; have:=B.m0; split <;> grind
    have:=Rat.mul_nonneg (Rat.le_of_lt s0) this
    grind
  rcases x3 with z | z
  · grind
  · have:=le _ z
    grind
theorem burst_last (P:Plan ss L) {i:Nat} (mx:∀ j,j<ss.length→eS ss j≤eS ss i):FS ss (eS ss i)=(((List.range ss.length).map (buS ss)).sum:Rat):=by
  unfold FS
  have e:((List.range ss.length).map fun j=>(shS ss j:Rat)*min (eS ss i) (eS ss j))=(List.range ss.length).map fun j=>(buS ss j:Rat):=List.map_congr_left fun j hj=>by
    have hj:=List.mem_range.mp hj
    have:=mx j hj
    have e1:min (eS ss i) (eS ss j)=eS ss j:=by rw [Rat.min_def]; split <;> grind
    rw [e1,(bu_sh P hj).1]
  rw [e,tq_cast]
end
end Sw
namespace Sw
open L2
def cumF (qs:List Q4) (w:Int) (k:Nat):Int:=((qs.take k).map fun q=>if q.2.1=w then q.2.2.1 else 0).sum
structure Once (A:Int) (sh:Int→Int) (qs:List Q4):Prop where
  a:∀ q∈qs,q.1=A
  s:∀ q∈qs,q.2.2.2=sh q.2.1
section
variable {n:Nat} {M:Int} {a c:Nat} {qs:List Q4} {A:Int} {sh:Int→Int}
theorem cumF_succ {k:Nat} {q:Q4} (e:qs[k]? = some q) (w:Int):cumF qs w (k+1)=cumF qs w k+(if q.2.1=w then q.2.2.1 else 0):=by
  unfold cumF
  rw [L2.take_succ_of e,List.map_append,List.sum_append,List.map_singleton,List.sum_singleton]
theorem cumF_ge (l0:∀ q∈qs,0≤q.2.2.1) (w:Int) (k:Nat):0≤cumF qs w k:=by
  unfold cumF
  have:∀ l:List Q4,(∀ q∈l,0≤q.2.2.1)→0≤(l.map fun q=>if q.2.1=w then q.2.2.1 else 0).sum:=fun l=>by
    induction l with
    | nil=>intro _; exact Int.le_refl _
    | cons x r ih =>
      intro h
      rw [List.map_cons,List.sum_cons]
      have h1:=h x (by simp)
      have h2:=ih fun q hq=>h q (List.mem_cons_of_mem _ hq)
      split <;> omega
  exact this _ fun q hq=>l0 q (List.mem_of_mem_take hq)
theorem markF_nil (t:Rat):∀ (n:Nat) (mo re:Rat),markF [] t n mo re=re
  | 0,_,_=>rfl
  | n+1,mo,re=>by unfold markF; rw [if_pos (show hds [] re = [] from rfl)]
theorem once_rv (g:Good n M a c qs) (o:Once A sh qs) {i:Nat} {q:Q4} (e:qs[i]? = some q) (h1:(Ti.nil.after (qs.take i)).re = 0) (h2:i = 0∨(Ti.nil.after (qs.take i)).lat=A):(Ti.nil.after (qs.take i)).rv q = 0:=by
  unfold Ti.rv markAt
  rw [o.a q (List.mem_of_getElem? e),h1]
  rcases h2 with z | z
  · subst z
    rw [List.take_zero]
    exact markF_nil _ _ _ _
  · rw [z]
    have hi:=(List.getElem?_eq_some_iff.mp e).1
    obtain ⟨D,r⟩:=g.run (i:=i) (by omega)
    exact markF_now (fun u hu=>(r.ok.tus u hu).s1) _ _
theorem once_tide (g:Good n M a c qs) (o:Once A sh qs):∀ i,i≤qs.length→(Ti.nil.after (qs.take i)).re = 0∧(i = 0∨(Ti.nil.after (qs.take i)).lat=A)∧∀ w,(((Ti.nil.after (qs.take i)).en w=none∧cumF qs w i = 0)∨(Ti.nil.after (qs.take i)).en w=some ((cumF qs w i:Rat) / (sh w:Rat)))
  | 0,_=>⟨rfl,.inl rfl,fun w=>.inl ⟨rfl,rfl⟩⟩
  | i+1,hi=>by
    obtain ⟨h1,h2,h3⟩:=once_tide g o i (by omega)
    have e:qs[i]? = some (qs[i]'(by omega)):=List.getElem?_eq_getElem _
    generalize qs[i]'(by omega)=q at e
    have rv:=once_rv g o e h1 h2
    have bg:(Ti.nil.after (qs.take i)).beg q=(cumF qs q.2.1 i:Rat) / (sh q.2.1:Rat):=by
      have c0:=cumF_ge (fun q hq=>g.l0 q hq) q.2.1 i
      have s1:=(g.pc q (List.mem_of_getElem? e)).2.2.2.2.1
      rw [o.s q (List.mem_of_getElem? e)] at s1
      have s0:(0:Rat)<(sh q.2.1:Rat):=q_cast_pos (by omega)
      have d0:0≤(cumF qs q.2.1 i:Rat) / (sh q.2.1:Rat):=by
        have z:((0:Int):Rat)≤(cumF qs q.2.1 i:Rat):=Rat.intCast_le_intCast.mpr c0
        have:=div_mono s0 z
        have y:((0:Int):Rat) / (sh q.2.1:Rat) = 0:=by
          have:((0:Int):Rat) = 0:=rfl
          rw [this]; grind
        rw [y] at this
        exact this
      unfold Ti.beg begOn
      rw [rv]
      rcases h3 q.2.1 with ⟨z1,z2⟩ | z
      · rw [z1,z2]
        show max 0 (0:Rat)=((0:Int):Rat) / (sh q.2.1:Rat)
        have:((0:Int):Rat) = 0:=rfl
        rw [this,Rat.max_def,if_pos Rat.le_refl]
        grind
      · rw [z]
        show max 0 ((cumF qs q.2.1 i:Rat) / (sh q.2.1:Rat)) = _
        rw [Rat.max_def,if_pos d0]
    rw [L2.take_succ_of e,Ti.after_snoc]
    refine ⟨rv,.inr (o.a q (List.mem_of_getElem? e)),fun w=>?_⟩
    show ((if w=q.2.1 then some ((Ti.nil.after (qs.take i)).fin q) else (Ti.nil.after (qs.take i)).en w)=none∧_)∨(if w=q.2.1 then some ((Ti.nil.after (qs.take i)).fin q) else (Ti.nil.after (qs.take i)).en w) = _
    rw [cumF_succ e]
    by_cases c:w=q.2.1
    · right
      rw [if_pos c,if_pos c.symm]
      unfold Ti.fin
      rw [bg,o.s q (List.mem_of_getElem? e),c,Rat.intCast_add]
      congr 1
      grind
    · rw [if_neg c,if_neg (fun z=>c z.symm),Int.add_zero]
      exact h3 w
theorem once_fs (g:Good n M a c qs) (o:Once A sh qs) {p:Nat} {q:Q4} (e:qs[p]? = some q):(fsOf qs (Ti.nil.tags qs))[p]? = some (A,(cumF qs q.2.1 p:Rat) / (sh q.2.1:Rat),(cumF qs q.2.1 (p+1):Rat) / (sh q.2.1:Rat),sh q.2.1):=by
  have hp:=(List.getElem?_eq_some_iff.mp e).1
  obtain ⟨h1,h2,h3⟩:=once_tide g o p (by omega)
  obtain ⟨_,_,h4⟩:=once_tide g o (p+1) hp
  have t:=fsOf_get e (tag_at e)
  have rv:=once_rv g o e h1 h2
  have c0:=cumF_ge (fun q hq=>g.l0 q hq) q.2.1 p
  have s1:=(g.pc q (List.mem_of_getElem? e)).2.2.2.2.1
  rw [o.s q (List.mem_of_getElem? e)] at s1
  have s0:(0:Rat)<(sh q.2.1:Rat):=q_cast_pos (by omega)
  have fin:(Ti.nil.after (qs.take p)).fin q=(cumF qs q.2.1 (p+1):Rat) / (sh q.2.1:Rat):=by
    have h5:=h4 q.2.1
    rw [L2.take_succ_of e,Ti.after_snoc] at h5
    have e5:((Ti.nil.after (qs.take p)).come q).en q.2.1=some ((Ti.nil.after (qs.take p)).fin q):=by
      show (if q.2.1=q.2.1 then some ((Ti.nil.after (qs.take p)).fin q) else _) = _
      rw [if_pos rfl]
    rw [e5] at h5
    rcases h5 with ⟨z,_⟩ | z
    · cases z
    · exact Option.some.inj z
  have beg:(Ti.nil.after (qs.take p)).beg q=(cumF qs q.2.1 p:Rat) / (sh q.2.1:Rat):=by
    have ef:(Ti.nil.after (qs.take p)).fin q=(Ti.nil.after (qs.take p)).beg q+(q.2.2.1:Rat) / (q.2.2.2:Rat):=rfl
    rw [fin,o.s q (List.mem_of_getElem? e),cumF_succ e,if_pos rfl,Rat.intCast_add] at ef
    grind
  rw [t,beg,fin,o.a q (List.mem_of_getElem? e),o.s q (List.mem_of_getElem? e)]
def gP (fs:List F4) (x:Rat) (p:Nat):Rat:=((fs[p]?).map fun f=>(f.2.2.2:Rat)*dn f x).getD 0
def gS (fs:List F4) (x:Rat):Rat:=tq ((List.range fs.length).map (gP fs x))
theorem gP_at {fs:List F4} {p:Nat} {f:F4} (h:fs[p]? = some f) (x:Rat):gP fs x p=(f.2.2.2:Rat)*dn f x:=by unfold gP; rw [h]; rfl
theorem Run.gS_zero {fs:List F4} {w:Nat→Int} (R:Run fs w):gS fs 0 = 0:=by
  unfold gS
  have e:(List.range fs.length).map (gP fs 0)=(List.range fs.length).map fun _=>(0:Rat):=List.map_congr_left fun p hp=>by
    have hf:fs[p]? = some _:=List.getElem?_eq_getElem (List.mem_range.mp hp)
    rw [gP_at hf,dn_no (R.b0 hf)]
    grind
  rw [e,tq_zero]
theorem Run.gS_step {fs:List F4} {w:Nat→Int} (R:Run fs w) {k:Nat} (cm:∀ f∈fs,(f.1:Rat)≤(stS fs k).1) (ne:hdP fs (stS fs k).1 (stS fs k).2≠[]):gS fs (stS fs (k+1)).2-gS fs (stS fs k).2=(stS fs (k+1)).1-(stS fs k).1:=by
  have S:=R.st1 ne
  have S1:=shP_pos R.s1 ne
  have S0:(0:Rat)<(shP fs (hdP fs (stS fs k).1 (stS fs k).2):Rat):=q_cast_pos (by omega)
  have Sn:(shP fs (hdP fs (stS fs k).1 (stS fs k).2):Rat)≠0:=by grind
  have tm:(stS fs (k+1)).1-(stS fs k).1=((stS fs (k+1)).2-(stS fs k).2)*(shP fs (hdP fs (stS fs k).1 (stS fs k).2):Rat):=by rw [S.ma]; grind
  have mm:=(stS_le R.s1 k).2
  unfold gS
  rw [← tq_sub,tm]
  have e:((List.range fs.length).map fun i=>gP fs (stS fs (k+1)).2 i-gP fs (stS fs k).2 i)=(List.range fs.length).map fun i=>if (match fs[i]? with | some f=>hdB (stS fs k).1 (stS fs k).2 f | none=>false)=true then (shr fs i:Rat)*((stS fs (k+1)).2-(stS fs k).2) else 0:=List.map_congr_left fun p hp=>by
    have hf:fs[p]? = some _:=List.getElem?_eq_getElem (List.mem_range.mp hp)
    generalize fs[p]'(List.mem_range.mp hp)=f at hf
    rw [gP_at hf,gP_at hf,hf,shr_at hf]
    have fc:=cm f (List.mem_of_getElem? hf)
    have bt:=R.bt p f hf
    show _=if hdB (stS fs k).1 (stS fs k).2 f=true then _ else _
    by_cases hd:hdB (stS fs k).1 (stS fs k).2 f=true
    · rw [if_pos hd]
      obtain ⟨_,h1,h2⟩:=hdB_iff.mp hd
      have h3:=S.le p f (hdP_mem.mpr ⟨f,hf,hd⟩) hf
      rw [dn_in h1 (by grind),dn_in (by grind) h3]
      grind
    · rw [if_neg hd]
      by_cases o1:f.2.2.1≤(stS fs k).2
      · rw [dn_out (by grind) o1,dn_out (by grind) (by grind)]
        grind
      · have lb:(stS fs k).2<f.2.1:=by
          by_cases z:f.2.1≤(stS fs k).2
          · exact absurd (hdB_iff.mpr ⟨fc,z,by grind⟩) hd
          · grind
        obtain ⟨q,hq,wq⟩:=R.head hf fc (by grind)
        obtain ⟨fq,hfq,_,q1,q2⟩:=hq
        have qp:q<p:=by
          rcases Nat.lt_trichotomy q p with z | z | z
          · exact z
          · subst z
            rw [hf] at hfq
            cases hfq
            grind
          · have:=R.pr q p fq f z wq.symm hfq hf
            grind
        have l1:=R.pr p q f fq qp wq hf hfq
        have l2:=S.le q fq (hdAt_mem.mp ⟨fq,hfq,cm fq (List.mem_of_getElem? hfq),q1,q2⟩) hfq
        rw [dn_no (by grind),dn_no (by grind)]
        grind
  rw [e]
  have e2:=tq_filter (fun i=>match fs[i]? with | some f=>hdB (stS fs k).1 (stS fs k).2 f | none=>false) (fun i=>(shr fs i:Rat)*((stS fs (k+1)).2-(stS fs k).2)) (List.range fs.length)
  rw [← e2]
  show tq ((hdP fs (stS fs k).1 (stS fs k).2).map fun i=>(shr fs i:Rat)*((stS fs (k+1)).2-(stS fs k).2)) = _
  rw [tq_mul,tq_cast]
  show ((shP fs (hdP fs (stS fs k).1 (stS fs k).2):Int):Rat) * _ = _
  grind
theorem once_st (g:Good n M a c qs) (o:Once A sh qs) (A0:0≤A):∀ k,((stS (fsOf qs (Ti.nil.tags qs)) k).1<(A:Rat)∧(stS (fsOf qs (Ti.nil.tags qs)) k).2 = 0)∨((A:Rat)≤(stS (fsOf qs (Ti.nil.tags qs)) k).1∧(stS (fsOf qs (Ti.nil.tags qs)) k).1=(A:Rat)+gS (fsOf qs (Ti.nil.tags qs)) (stS (fsOf qs (Ti.nil.tags qs)) k).2):=by
  have R:=g.runs
  have at_:∀ f∈fsOf qs (Ti.nil.tags qs),f.1=A:=fun f hf=>by
    obtain ⟨p,hp⟩:=List.getElem?_of_mem hf
    obtain ⟨q,e,ef⟩:=g.fs_at hp
    rw [ef]
    exact o.a q (List.mem_of_getElem? e)
  generalize fsOf qs (Ti.nil.tags qs)=fs at R at_
  intro k
  induction k with
  | zero =>
    by_cases z:A = 0
    · right
      subst z
      refine ⟨Rat.le_refl,?_⟩
      show (0:Rat)=((0:Int):Rat)+gS fs 0
      rw [R.gS_zero]
      have:((0:Int):Rat) = 0:=rfl
      rw [this]; grind
    · left
      exact ⟨q_cast_pos (by omega),rfl⟩
  | succ k ih =>
    rcases ih with ⟨h1,h2⟩ | ⟨h1,h2⟩
    · have hd:hdP fs (stS fs k).1 (stS fs k).2 = []:=by
        rcases e:hdP fs (stS fs k).1 (stS fs k).2 with _ | ⟨i,r⟩
        · rfl
        · exfalso
          have:i∈hdP fs (stS fs k).1 (stS fs k).2:=by rw [e]; simp
          obtain ⟨f,hf,hb⟩:=hdP_mem.mp this
          have:=(hdB_iff.mp hb).1
          rw [at_ f (List.mem_of_getElem? hf)] at this
          grind
      by_cases ce:chA fs (stS fs k).1 (stS fs k).2 = []
      · left
        have:=stS_stay ce (Nat.le_succ k)
        rw [this]
        exact ⟨h1,h2⟩
      · right
        have e1:(stS fs (k+1)).1=(A:Rat):=by
          have m:=minL_mem ce
          rw [← nx_eq ce] at m
          unfold chA at m
          rw [if_pos hd,List.append_nil] at m
          obtain ⟨f,hf,_,e⟩:=chs_mem.mp m
          rw [e,at_ f hf]
        have e2:(stS fs (k+1)).2 = 0:=by rw [idle_ma hd,h2]
        rw [e1,e2,R.gS_zero]
        exact ⟨Rat.le_refl,by grind⟩
    · have cm:∀ f∈fs,(f.1:Rat)≤(stS fs k).1:=fun f hf=>by rw [at_ f hf]; exact h1
      by_cases hd:hdP fs (stS fs k).1 (stS fs k).2 = []
      · right
        have ce:chA fs (stS fs k).1 (stS fs k).2 = []:=by
          unfold chA
          rw [if_pos hd,List.append_nil]
          rcases e:chs fs (stS fs k).1 with _ | ⟨x,r⟩
          · rfl
          · exfalso
            have:x∈chs fs (stS fs k).1:=by rw [e]; simp
            obtain ⟨f,hf,z,_⟩:=chs_mem.mp this
            have:=cm f hf
            grind
        have:=stS_stay ce (Nat.le_succ k)
        rw [this]
        exact ⟨h1,h2⟩
      · right
        have:=R.gS_step cm hd
        have mo:=(stS_le R.s1 k).1
        exact ⟨by grind,by grind⟩
theorem once_sender (g:Good n M a c qs) (o:Once A sh qs) {x:Rat} (x0:0≤x) {w:Int} (s1:0<sh w):∀ k,k≤qs.length→tq ((List.range k).map fun p=>if whoAt qs p=w then gP (fsOf qs (Ti.nil.tags qs)) x p else 0)=(sh w:Rat)*min x ((cumF qs w k:Rat) / (sh w:Rat))
  | 0,_=>by
    show (0:Rat)=(sh w:Rat)*min x (((0:Int):Rat) / (sh w:Rat))
    have:((0:Int):Rat) / (sh w:Rat) = 0:=by
      have:((0:Int):Rat) = 0:=rfl
      rw [this]; grind
    rw [this]
    have:min x 0 = 0:=by rw [Rat.min_def]; split <;> grind
    rw [this]; grind
  | k+1,hk=>by
    have ih:=once_sender g o x0 s1 k (by omega)
    have e:qs[k]? = some (qs[k]'(by omega)):=List.getElem?_eq_getElem _
    generalize qs[k]'(by omega)=q at e
    rw [List.range_succ,List.map_append,tq_app,ih,List.map_singleton,whoAt_of e]
    show _ + ((if q.2.1=w then gP (fsOf qs (Ti.nil.tags qs)) x k else 0)+0) = _
    have s0:(0:Rat)<(sh w:Rat):=q_cast_pos s1
    by_cases cw:q.2.1=w
    · rw [if_pos cw,gP_at (once_fs g o e),cw]
      show _ + ((sh w:Rat)*(max _ (min x _) - _)+0) = _
      have l1:cumF qs w k≤cumF qs w (k+1):=by
        rw [cumF_succ e]
        have:=g.l0 q (List.mem_of_getElem? e)
        split <;> omega
      have le:=div_mono s0 (Rat.intCast_le_intCast.mpr l1)
      generalize (cumF qs w k:Rat) / (sh w:Rat)=b at le ⊢
      generalize (cumF qs w (k+1):Rat) / (sh w:Rat)=e' at le ⊢
      simp only [Rat.max_def,Rat.min_def]
      repeat' split
      all_goals grind
    · rw [if_neg cw]
      have:cumF qs w (k+1)=cumF qs w k:=by rw [cumF_succ e,if_neg cw,Int.add_zero]
      rw [this]
      grind
theorem once_all (g:Good n M a c qs) (o:Once A sh qs) {x:Rat} (x0:0≤x) {ws:List Int} (nd:ws.Nodup) (hw:∀ q∈qs,q.2.1∈ws) (hs:∀ w∈ws,0<sh w):gS (fsOf qs (Ti.nil.tags qs)) x=tq (ws.map fun w=>(sh w:Rat)*min x ((cumF qs w qs.length:Rat) / (sh w:Rat))):=by
  have e1:ws.map (fun w=>(sh w:Rat)*min x ((cumF qs w qs.length:Rat) / (sh w:Rat)))=ws.map fun w=>tq ((List.range qs.length).map fun p=>if whoAt qs p=w then gP (fsOf qs (Ti.nil.tags qs)) x p else 0):=List.map_congr_left fun w hw'=>(once_sender g o x0 (hs w hw') qs.length (Nat.le_refl _)).symm
  rw [e1,tq_swap]
  unfold gS
  rw [fs_len]
  congr 1
  refine List.map_congr_left fun p hp=>?_
  have e:qs[p]? = some _:=List.getElem?_eq_getElem (List.mem_range.mp hp)
  exact (tq_pick nd (by rw [whoAt_of e]; exact hw _ (List.mem_of_getElem? e))).symm
theorem once_end (g:Good n M a c qs) (o:Once A sh qs) (A0:0≤A) {ws:List Int} (nd:ws.Nodup) (hw:∀ q∈qs,q.2.1∈ws) (hs:∀ w∈ws,0<sh w) {p k1 k2:Nat} {q:Q4} (e:qs[p]? = some q) (L:Lives (fsOf qs (Ti.nil.tags qs)) p (A,(cumF qs q.2.1 p:Rat) / (sh q.2.1:Rat),(cumF qs q.2.1 (p+1):Rat) / (sh q.2.1:Rat),sh q.2.1) k1 k2) (last:cumF qs q.2.1 (p+1)=cumF qs q.2.1 qs.length):(stS (fsOf qs (Ti.nil.tags qs)) k2).1=(A:Rat)+tq (ws.map fun w=>(sh w:Rat)*min ((cumF qs q.2.1 qs.length:Rat) / (sh q.2.1:Rat)) ((cumF qs w qs.length:Rat) / (sh w:Rat))):=by
  have R:=g.runs
  have s1:=hs _ (hw q (List.mem_of_getElem? e))
  have s0:(0:Rat)<(sh q.2.1:Rat):=q_cast_pos s1
  have x0:0≤(cumF qs q.2.1 qs.length:Rat) / (sh q.2.1:Rat):=by
    have z:((0:Int):Rat)≤(cumF qs q.2.1 qs.length:Rat):=Rat.intCast_le_intCast.mpr (cumF_ge (fun q hq=>g.l0 q hq) q.2.1 qs.length)
    have:=div_mono s0 z
    have y:((0:Int):Rat) / (sh q.2.1:Rat) = 0:=by
      have:((0:Int):Rat) = 0:=rfl
      rw [this]; grind
    rw [y] at this
    exact this
  have m1:(A:Rat)≤(stS (fsOf qs (Ti.nil.tags qs)) k2).1:=by
    obtain ⟨f,hf,h1,_⟩:=(L.hd k1).mpr ⟨Nat.le_refl _,L.lt⟩
    rw [once_fs g o e] at hf
    cases hf
    have:=(stS_mono R.s1 (Nat.le_of_lt L.lt)).1
    have h1:(A:Rat)≤(stS (fsOf qs (Ti.nil.tags qs)) k1).1:=h1
    grind
  have en:=L.en
  have en:(stS (fsOf qs (Ti.nil.tags qs)) k2).2=(cumF qs q.2.1 (p+1):Rat) / (sh q.2.1:Rat):=en
  rcases once_st g o A0 k2 with ⟨h1,_⟩ | ⟨_,h2⟩
  · grind
  · rw [h2,en,last,once_all g o x0 nd hw hs]
end
end Sw
local macro_rules | `(tactic| walk_at "rd")=>`(tactic| try simp only [L2.tAsg,L2.tOp,L2.tUn,L2.gName,L2.tVar,L2.tC,L2.rI,L2.rI0,L2.rU,L2.rEq,L2.rNe,L2.scal,L2.tTest,L2.tIfS,L2.tRet,L2.tRetN,L2.tNext,L2.tDrop,L2.tCB,L2.tCons,L2.tNil,L2.tCall,L2.tAndV,L2.tOrV,L2.tNotV,L2.tAnd,L2.tOr,L2.tNot,L2.tB,L2.tIf,L2.tChain,L2.tTup,L2.tLst,L2.tBM,L2.tBM0,L2.tComp_eq,L2.tCallX,L2.tCallN,L2.tDGet,L2.tDGet1,L2.tDGet2,L2.sDPut,L2.tDIn,L2.tDNotIn,L2.tDSd,L2.tDNewK,L2.tTru,L2.tFld_eq,L2.sFld_eq,L2.tMethX_eq,L2.tMakeX,L2.tXmk,L2.tXmk1,L2.tRaise,L2.tTry,L2.tTryAs,L2.hkOf,L2.iList,L2.iTup,L2.iEnum,L2.iRng1,L2.iRng2,L2.iRng3,L2.iEnum1,L2.iRev,L2.tSl,L2.tPart,L2.tNoPart,L2.gTup,L2.gCons,L2.gNil,L2.spInt1,L2.spInt2,L2.spWhole,
  List.getElem?_cons_zero,List.getElem?_cons_succ,List.set_cons_zero,List.set_cons_succ,List.cons_append,List.nil_append,List.append_nil,Option.some.injEq,L2.V.int.injEq,L2.V.bl.injEq,L2.V.ref.injEq,L2.V.str.injEq,List.cons.injEq,exists_eq_left',exists_eq_left,exists_eq_right,exists_and_left,exists_and_right,and_true,true_and,and_self,exists_const,exists_eq,exists_eq',and_assoc,decide_eq_true_eq,Bool.not_eq_true',Bool.not_true,Bool.not_false,Bool.false_eq_true,Bool.true_eq_false,if_true,if_false,decide_eq_false_iff_not,ite_not,↓reduceIte,Int.reduceLT,Int.reduceLE,Int.reducePow,Int.reduceMul,Int.reduceAdd,Int.reduceSub,Int.reduceNeg,Int.reduceToNat,Int.reduceEq,Int.reduceNe,L2.CPow,L2.cmulL_lit,L2.line_lit,L2.line_lt,List.length_cons,List.length_nil,Nat.reduceAdd,Nat.zero_add,L2.cdivL_lit,Int.natAbs_natCast,Int.natAbs_neg,Nat.reducePow,Nat.reduceLT,Nat.reduceLeDiff,Int.natAbs,L2.tPar,ne_eq,not_false_eq_true,not_true_eq_false])
local macro_rules | `(tactic| walk_at "rds")=>`(tactic| try simp only [L2.tSeq,L2.tAsg,L2.tOp,L2.tUn,L2.gName,L2.tVar,L2.tC,L2.rI,L2.rI0,L2.rU,L2.rEq,L2.rNe,L2.scal,L2.tTest,L2.tIfS,L2.tRet,L2.tRetN,L2.tNext,L2.tDrop,L2.tCB,L2.tCons,L2.tNil,L2.tCall,L2.tAndV,L2.tOrV,L2.tNotV,L2.tAnd,L2.tOr,L2.tNot,L2.tB,L2.tIf,L2.tChain,L2.tTup,L2.tLst,L2.tBM,L2.tBM0,L2.tComp_eq,L2.tCallX,L2.tCallN,L2.tDGet,L2.tDGet1,L2.tDGet2,L2.sDPut,L2.tDIn,L2.tDNotIn,L2.tDSd,L2.tDNewK,L2.tTru,L2.tFld_eq,L2.sFld_eq,L2.tMethX_eq,L2.tMakeX,L2.tXmk,L2.tXmk1,L2.tRaise,L2.tTry,L2.tTryAs,L2.hkOf,L2.iList,L2.iTup,L2.iEnum,L2.iRng1,L2.iRng2,L2.iRng3,L2.iEnum1,L2.iRev,L2.tSl,L2.tPart,L2.tNoPart,L2.gTup,L2.gCons,L2.gNil,L2.spInt1,L2.spInt2,L2.spWhole,
  List.getElem?_cons_zero,List.getElem?_cons_succ,List.set_cons_zero,List.set_cons_succ,List.cons_append,List.nil_append,List.append_nil,Option.some.injEq,L2.V.int.injEq,L2.V.bl.injEq,L2.V.ref.injEq,L2.V.str.injEq,List.cons.injEq,exists_eq_left',exists_eq_left,exists_eq_right,exists_and_left,exists_and_right,and_true,true_and,and_self,exists_const,exists_eq,exists_eq',and_assoc,decide_eq_true_eq,Bool.not_eq_true',Bool.not_true,Bool.not_false,Bool.false_eq_true,Bool.true_eq_false,if_true,if_false,decide_eq_false_iff_not,ite_not,↓reduceIte,Int.reduceLT,Int.reduceLE,Int.reducePow,Int.reduceMul,Int.reduceAdd,Int.reduceSub,Int.reduceNeg,Int.reduceToNat,Int.reduceEq,Int.reduceNe,L2.CPow,L2.cmulL_lit,L2.line_lit,L2.line_lt,List.length_cons,List.length_nil,Nat.reduceAdd,Nat.zero_add,L2.cdivL_lit,Int.natAbs_natCast,Int.natAbs_neg,Nat.reducePow,Nat.reduceLT,Nat.reduceLeDiff,Int.natAbs,L2.tPar,ne_eq,not_false_eq_true,not_true_eq_false])
namespace K48
open PySem L2 PyProof.Rows
def top (i:Nat):Stmt:=PySem.Challenge.pw_sharewheel_k48_whole_bursts_alone.main.body.getD i (.Pass ⟨0,0,0,0⟩)
abbrev s_divisor:Stmt:=top 5
abbrev s_ratio:Stmt:=top 6
abbrev s_plus:Stmt:=top 7
abbrev s_minus:Stmt:=top 8
abbrev s_times:Stmt:=top 9
abbrev s_over:Stmt:=top 10
abbrev s_under:Stmt:=top 11
abbrev s_lesser:Stmt:=top 12
abbrev s_greater:Stmt:=top 13
abbrev s_least:Stmt:=top 14
abbrev s_total:Stmt:=top 15
abbrev s_check_rates:Stmt:=top 17
abbrev s_full_ones:Stmt:=top 18
abbrev s_outs_of:Stmt:=top 19
abbrev s_time_to_empty:Stmt:=top 20
abbrev s_course:Stmt:=top 21
abbrev s_greatest:Stmt:=top 22
abbrev s_piles:Stmt:=top 23
abbrev s_waits_at_turns:Stmt:=top 24
abbrev s_waits:Stmt:=top 25
abbrev s_heads_of:Stmt:=top 27
abbrev s_tags_of:Stmt:=top 30
abbrev s_heads_at:Stmt:=top 31
abbrev s_first_end:Stmt:=top 32
abbrev s_flow:Stmt:=top 33
abbrev s_spans:Stmt:=top 34
abbrev s__law_cell_at:Stmt:=top 36
abbrev s__law_mix:Stmt:=top 37
abbrev s__law_senders:Stmt:=top 38
abbrev s__law_cuts:Stmt:=top 39
abbrev s__law_row:Stmt:=top 40
abbrev s_law:Stmt:=top 41
theorem sc_divisor:FnScope ["one", "other", "great", "small", "rest"] ["one", "other"] (defScope s_divisor):=⟨rfl,rfl,rfl,by decide +kernel,rfl,by decide +kernel,by decide +kernel⟩
theorem sc_ratio:FnScope ["top", "bottom", "common"] ["top", "bottom"] (defScope s_ratio):=⟨rfl,rfl,rfl,by decide +kernel,rfl,by decide +kernel,by decide +kernel⟩
theorem sc_plus:FnScope ["one", "other"] ["one", "other"] (defScope s_plus):=⟨rfl,rfl,rfl,by decide +kernel,rfl,by decide +kernel,by decide +kernel⟩
theorem sc_minus:FnScope ["one", "other"] ["one", "other"] (defScope s_minus):=⟨rfl,rfl,rfl,by decide +kernel,rfl,by decide +kernel,by decide +kernel⟩
theorem sc_times:FnScope ["one", "other"] ["one", "other"] (defScope s_times):=⟨rfl,rfl,rfl,by decide +kernel,rfl,by decide +kernel,by decide +kernel⟩
theorem sc_over:FnScope ["one", "other"] ["one", "other"] (defScope s_over):=⟨rfl,rfl,rfl,by decide +kernel,rfl,by decide +kernel,by decide +kernel⟩
theorem sc_under:FnScope ["one", "other"] ["one", "other"] (defScope s_under):=⟨rfl,rfl,rfl,by decide +kernel,rfl,by decide +kernel,by decide +kernel⟩
theorem sc_lesser:FnScope ["one", "other", "least"] ["one", "other"] (defScope s_lesser):=⟨rfl,rfl,rfl,by decide +kernel,rfl,by decide +kernel,by decide +kernel⟩
theorem sc_greater:FnScope ["one", "other", "most"] ["one", "other"] (defScope s_greater):=⟨rfl,rfl,rfl,by decide +kernel,rfl,by decide +kernel,by decide +kernel⟩
theorem sc_least:FnScope ["some", "result", "one"] ["some"] (defScope s_least):=⟨rfl,rfl,rfl,by decide +kernel,rfl,by decide +kernel,by decide +kernel⟩
theorem sc_total:FnScope ["some", "result", "one"] ["some"] (defScope s_total):=⟨rfl,rfl,rfl,by decide +kernel,rfl,by decide +kernel,by decide +kernel⟩
theorem sc_check_rates:FnScope ["senders", "asked"] ["senders"] (defScope s_check_rates):=⟨rfl,rfl,rfl,by decide +kernel,rfl,by decide +kernel,by decide +kernel⟩
theorem sc_full_ones:FnScope ["heaps"] ["heaps"] (defScope s_full_ones):=⟨rfl,rfl,rfl,by decide +kernel,rfl,by decide +kernel,by decide +kernel⟩
theorem sc_outs_of:FnScope ["senders", "heaps", "full", "shares", "outs", "left", "number"] ["senders", "heaps"] (defScope s_outs_of):=⟨rfl,rfl,rfl,by decide +kernel,rfl,by decide +kernel,by decide +kernel⟩
theorem sc_time_to_empty:FnScope ["heaps", "falls"] ["heaps", "falls"] (defScope s_time_to_empty):=⟨rfl,rfl,rfl,by decide +kernel,rfl,by decide +kernel,by decide +kernel⟩
theorem sc_course:FnScope ["senders", "heaps", "moment", "parts", "outs", "falls", "time", "after"] ["senders"] (defScope s_course):=⟨rfl,rfl,rfl,by decide +kernel,rfl,by decide +kernel,by decide +kernel⟩
theorem sc_greatest:FnScope ["some", "result", "one"] ["some"] (defScope s_greatest):=⟨rfl,rfl,rfl,by decide +kernel,rfl,by decide +kernel,by decide +kernel⟩
theorem sc_piles:FnScope ["senders", "parts"] ["senders"] (defScope s_piles):=⟨rfl,rfl,rfl,by decide +kernel,rfl,by decide +kernel,by decide +kernel⟩
theorem sc_waits_at_turns:FnScope ["parts", "number", "line", "burst", "gone", "found", "start", "end", "outs", "heaps", "before"] ["parts", "number", "line"] (defScope s_waits_at_turns):=⟨rfl,rfl,rfl,by decide +kernel,rfl,by decide +kernel,by decide +kernel⟩
theorem sc_waits:FnScope ["senders", "parts"] ["senders"] (defScope s_waits):=⟨rfl,rfl,rfl,by decide +kernel,rfl,by decide +kernel,by decide +kernel⟩
theorem sc_heads_of:FnScope ["tagged", "mark"] ["tagged", "mark"] (defScope s_heads_of):=⟨rfl,rfl,rfl,by decide +kernel,rfl,by decide +kernel,by decide +kernel⟩
theorem sc_tags_of:FnScope ["row", "tide"] ["row"] (defScope s_tags_of):=⟨rfl,rfl,rfl,by decide +kernel,rfl,by decide +kernel,by decide +kernel⟩
theorem sc_heads_at:FnScope ["row", "tags", "moment", "mark", "heads", "place", "piece", "begin", "end", "come"] ["row", "tags", "moment", "mark"] (defScope s_heads_at):=⟨rfl,rfl,rfl,by decide +kernel,rfl,by decide +kernel,by decide +kernel⟩
theorem sc_first_end:FnScope ["tags", "heads", "shares", "moment", "mark", "way"] ["tags", "heads", "shares", "moment", "mark"] (defScope s_first_end):=⟨rfl,rfl,rfl,by decide +kernel,rfl,by decide +kernel,by decide +kernel⟩
theorem sc_flow:FnScope ["row", "tags", "stretches", "moment", "mark", "heads", "shares", "changes", "after"] ["row"] (defScope s_flow):=⟨rfl,rfl,rfl,by decide +kernel,rfl,by decide +kernel,by decide +kernel⟩
theorem sc_spans:FnScope ["row", "ends", "start", "end", "parts", "place", "rate", "ahead", "told", "piece", "begin"] ["row"] (defScope s_spans):=⟨rfl,rfl,rfl,by decide +kernel,rfl,by decide +kernel,by decide +kernel⟩
theorem sc__law_cell_at:FnScope ["_law_script", "_law_k"] ["_law_script", "_law_k"] (defScope s__law_cell_at):=⟨rfl,rfl,rfl,by decide +kernel,rfl,by decide +kernel,by decide +kernel⟩
theorem sc__law_mix:FnScope ["_law_cell", "_law_k", "_law_base", "_law_left", "_law_step", "_law_number"] ["_law_cell", "_law_k"] (defScope s__law_mix):=⟨rfl,rfl,rfl,by decide +kernel,rfl,by decide +kernel,by decide +kernel⟩
theorem sc__law_senders:FnScope ["_law_script", "_law_way", "_law_senders_here", "_law_cell", "_law_burst"] ["_law_script"] (defScope s__law_senders):=⟨rfl,rfl,rfl,by decide +kernel,rfl,by decide +kernel,by decide +kernel⟩
theorem sc__law_cuts:FnScope ["_law_burst", "_law_cell", "_law_one", "_law_two", "_law_cuts_here"] ["_law_burst", "_law_cell"] (defScope s__law_cuts):=⟨rfl,rfl,rfl,by decide +kernel,rfl,by decide +kernel,by decide +kernel⟩
theorem sc__law_row:FnScope ["_law_script", "_law_senders_here", "_law_at", "_law_row_here", "_law_turn", "_law_who", "_law_sender", "_law_cuts_here"] ["_law_script", "_law_senders_here", "_law_at"] (defScope s__law_row):=⟨rfl,rfl,rfl,by decide +kernel,rfl,by decide +kernel,by decide +kernel⟩
theorem sc_law:FnScope ["_law_script", "_law_senders_here", "_law_first", "_law_at", "_law_row_here", "_law_wait", "_law_pile", "_law_told", "_law_ends", "_law_piece", "_law_span", "_law_who", "_law_whole"] ["_law_script"] (defScope s_law):=⟨rfl,rfl,rfl,by decide +kernel,rfl,by decide +kernel,by decide +kernel⟩
abbrev s_Tide_init:Stmt:=inClass (top 28) 0
theorem sc_Tide_init:FnScope ["self"] ["self"] (defScope s_Tide_init):=⟨rfl,rfl,rfl,by decide +kernel,rfl,by decide +kernel,by decide +kernel⟩
abbrev s_Tide_mark:Stmt:=inClass (top 28) 1
theorem sc_Tide_mark:FnScope ["self", "at", "moment", "reached", "heads", "shares", "first_end", "after"] ["self", "at"] (defScope s_Tide_mark):=⟨rfl,rfl,rfl,by decide +kernel,rfl,by decide +kernel,by decide +kernel⟩
abbrev s_Tide_come:Stmt:=inClass (top 28) 2
theorem sc_Tide_come:FnScope ["self", "piece", "reached", "begin", "end"] ["self", "piece"] (defScope s_Tide_come):=⟨rfl,rfl,rfl,by decide +kernel,rfl,by decide +kernel,by decide +kernel⟩
structure Txt (K:PySem.W.Frag) (mg:Str→Option Value) (c_Tide:Addr):Prop where
  no_abs:mg "abs" = none
  no_enumerate:mg "enumerate" = none
  no_sum:mg "sum" = none
  no_zip:mg "zip" = none
  no_range:mg "range" = none
  no_len:mg "len" = none
  no_max:mg "max" = none
  no_min:mg "min" = none
  no_list:mg "list" = none
  src_divisor:Src K mg "divisor" s_divisor ["one", "other"]
  src_ratio:Src K mg "ratio" s_ratio ["top", "bottom"]
  src_plus:Src K mg "plus" s_plus ["one", "other"]
  src_minus:Src K mg "minus" s_minus ["one", "other"]
  src_times:Src K mg "times" s_times ["one", "other"]
  src_over:Src K mg "over" s_over ["one", "other"]
  src_under:Src K mg "under" s_under ["one", "other"]
  src_lesser:Src K mg "lesser" s_lesser ["one", "other"]
  src_greater:Src K mg "greater" s_greater ["one", "other"]
  src_least:Src K mg "least" s_least ["some"]
  src_total:Src K mg "total" s_total ["some"]
  src_check_rates:Src K mg "check_rates" s_check_rates ["senders"]
  src_full_ones:Src K mg "full_ones" s_full_ones ["heaps"]
  src_outs_of:Src K mg "outs_of" s_outs_of ["senders", "heaps"]
  src_time_to_empty:Src K mg "time_to_empty" s_time_to_empty ["heaps", "falls"]
  src_course:Src K mg "course" s_course ["senders"]
  src_greatest:Src K mg "greatest" s_greatest ["some"]
  src_piles:Src K mg "piles" s_piles ["senders"]
  src_waits_at_turns:Src K mg "waits_at_turns" s_waits_at_turns ["parts", "number", "line"]
  src_waits:Src K mg "waits" s_waits ["senders"]
  src_heads_of:Src K mg "heads_of" s_heads_of ["tagged", "mark"]
  src_tags_of:Src K mg "tags_of" s_tags_of ["row"]
  src_heads_at:Src K mg "heads_at" s_heads_at ["row", "tags", "moment", "mark"]
  src_first_end:Src K mg "first_end" s_first_end ["tags", "heads", "shares", "moment", "mark"]
  src_flow:Src K mg "flow" s_flow ["row"]
  src_spans:Src K mg "spans" s_spans ["row"]
  src__law_cell_at:Src K mg "_law_cell_at" s__law_cell_at ["_law_script", "_law_k"]
  src__law_mix:Src K mg "_law_mix" s__law_mix ["_law_cell", "_law_k"]
  src__law_senders:Src K mg "_law_senders" s__law_senders ["_law_script"]
  src__law_cuts:Src K mg "_law_cuts" s__law_cuts ["_law_burst", "_law_cell"]
  src__law_row:Src K mg "_law_row" s__law_row ["_law_script", "_law_senders_here", "_law_at"]
  mg_Tide:mg "Tide" = some (.ref c_Tide)
  cl_Tide:Cls K c_Tide
  na_Tide_latest:NoAttr K c_Tide "latest"
  na_Tide_reached:NoAttr K c_Tide "reached"
  na_Tide_unflowed:NoAttr K c_Tide "unflowed"
  na_Tide_last_ends:NoAttr K c_Tide "last_ends"
  in_Tide:SrcK K c_Tide "Tide.__init__" s_Tide_init ["self"] [[]]
  me_Tide_mark:SrcM K c_Tide "mark" "Tide.mark" s_Tide_mark ["self", "at"] [[]]
  me_Tide_come:SrcM K c_Tide "come" "Tide.come" s_Tide_come ["self", "piece"] [[]]
section
variable {P:Program} {w:World} {K:PySem.W.Frag} {mg:Str→Option Value} {base:Heap} {c_Tide:Addr}
theorem d_divisor (T:Txt K mg c_Tide):Def P w K mg base (CXX P w) 1 "divisor" ["one", "other"] (spInt2 Sw.dv):=by
  refine T.src_divisor.okN (k:=0) sc_divisor (fun vs H Q E h=>?_) (fun f cdv A outer s H vs Q E hr h=>?_)
  · obtain ⟨a,b,rfl,_⟩:=h
    rfl
  · obtain ⟨a,b,rfl,k⟩:=h
    refine ⟨_,(pss_cons (ps_set (i:=2) sc_divisor.nd rfl (by first|left;rfl|right;rfl) (pe_callB call_abs rfl T.no_abs boot_abs (pa_cons (pv 0) pa_nil))) (pss_cons (ps_set (i:=3) sc_divisor.nd rfl (by first|left;rfl|right;rfl) (pe_callB call_abs rfl T.no_abs boot_abs (pa_cons (pv 1) pa_nil))) (pss_cons (ps_while PassesOwn.never (pt_cmpR op_ne (pv 3) pe_int (nomark _)) (pss_cons (ps_set (i:=4) sc_divisor.nd rfl (by first|left;rfl|right;rfl) (pe_op op_mod (pv 2) (pv 3))) (pss_cons (ps_set (i:=2) sc_divisor.nd rfl (by first|left;rfl|right;rfl) (pv 3)) (pss_one (ps_set (i:=3) sc_divisor.nd rfl (by first|left;rfl|right;rfl) (pv 4)))))) (pss_one (ps_ret (pv 2)))))),?_⟩
    refine ⟨_,rfl,a,rfl,?_⟩
    refine ⟨_,rfl,b,rfl,?_⟩
    refine while_det (fun σ H'=>H'=H∧∃ g s r,σ = [some (.int a),some (.int b),some (.int g),some (.int s),r]∧0≤g∧0≤s∧Sw.dv g s=Sw.dv a b)
      (fun σ _=>match σ with | [_,_,_,some (.int s),_]=>s.toNat | _=>0) ⟨rfl,_,_,none,rfl,?_,?_,Sw.dv_abs a b⟩ ?_
    · split <;> omega
    · split <;> omega
    · rintro σ H' ⟨rfl,g,s,r,rfl,hg,hs,e⟩
      refine ⟨!decide (V.int s=V.int 0),fun Q hQ=>⟨_,rfl,rfl,_,rfl,hQ⟩,fun hb=>?_,fun hb=>?_⟩
      · have hs0:s≠0:=by intro z; subst z; simp at hb
        have hsp:0<s:=by omega
        refine ⟨_,rfl,_,rfl,_,_,rfl,rfl,hsp,?_⟩
        refine ⟨_,rfl,?_⟩
        refine ⟨_,rfl,?_⟩
        refine ⟨⟨rfl,s,g % s,_,rfl,hs,Int.emod_nonneg g hs0,by rw [Sw.dv_step]; exact e⟩,?_⟩
        show (g % s).toNat<s.toNat
        have:=Int.emod_lt_of_pos g hsp
        have:=Int.emod_nonneg g hs0
        omega
      · have hs0:s = 0:=by
          have:V.int s=V.int 0:=by simpa using hb
          exact V.int.inj this
        subst hs0
        rw [Sw.dv_zero g hg] at e
        refine ⟨_,rfl,?_⟩
        show Q (.int g) H'
        rw [e]; exact k
def spRat:Sp:=fun vs H Q _=>∃ t b z,vs = [.int t,.int b]∧z≤5000∧Sw.Sz z b∧(b≠0→∀ p,H p=none→Q (.ref p) (upd H p (.tup (fq ((t:Rat) / (b:Rat))))))∧(b = 0→False)
theorem d_ratio (T:Txt K mg c_Tide):Def P w K mg base (CXX P w) 2 "ratio" ["top", "bottom"] spRat:=by
  have D_divisor:=d_divisor (P:=P) (w:=w) (base:=base) T
  refine T.src_ratio.okN (k:=1) sc_ratio (fun vs H Q E h=>?_) (fun f cdv A outer s H vs Q E hr h=>?_)
  · obtain ⟨t,b,z,rfl,_⟩:=h
    rfl
  · obtain ⟨t,b,z,rfl,z5,sb,k,hb⟩:=h
    refine ⟨_,(pss_cons (ps_if (pt_cmpR op_eq (pv 1) pe_int (nomark _)) (pss_one ps_never) pss_nil) (pss_cons (ps_set (i:=2) sc_ratio.nd rfl (by first|left;rfl|right;rfl) (pe_callX D_divisor (hr.mono (by decide)) rfl passN (pa_cons (pv 0) (pa_cons (pv 1) pa_nil)))) (pss_cons (ps_if (pt_cmpR op_lt (pv 1) pe_int (nomark _)) (pss_one (ps_set (i:=2) sc_ratio.nd rfl (by first|left;rfl|right;rfl) (pe_un un_neg (pv 2)))) pss_nil) (pss_one (ps_ret (pe_tup (pa_cons (pe_op op_fdivS (pv 0) (pv 2)) (pa_cons (pe_op op_fdivS (pv 1) (pv 2)) pa_nil)))))))),?_⟩
    show tSeq _ _ _ [some (.int t),some (.int b),none] H
    refine seq_step fun R hR=>?_
    walk_at "rd"
    refine iteN hb (hR _ _ ?_)
    have k:=k hb
    rw [← fq_nrm hb] at k
    have hg:0<Sw.dv t b:=Sw.dv_pos hb
    have hz:Sw.Sz 5000 (Sw.dv t b):=(sb.dvd (Sw.dv_r t b) hb).mono z5
    refine seq_step fun R hR=>?_
    walk_at "rd"
    refine hR _ _ ?_
    refine seq_step fun R hR=>?_
    have fin:∀ c:Int,(c=Sw.dv t b∧¬ b<0)∨(c = -(Sw.dv t b)∧b<0)→R [some (.int t),some (.int b),some (.int c)] H:=fun c hc=>by
      refine hR _ _ ?_
      walk_at "rd"
      have c0:c≠0:=by rcases hc with ⟨e,_⟩ | ⟨e,_⟩ <;> omega
      have cz:Sw.Sz 5000 c:=by
        rcases hc with ⟨e,_⟩ | ⟨e,_⟩
        · rw [e]; exact hz
        · rw [e]; exact hz.neg
      have d1:c ∣ t:=by
        rcases hc with ⟨e,_⟩ | ⟨e,_⟩
        · rw [e]; exact Sw.dv_l t b
        · rw [e]; exact Int.neg_dvd.mpr (Sw.dv_l t b)
      have d2:c ∣ b:=by
        rcases hc with ⟨e,_⟩ | ⟨e,_⟩
        · rw [e]; exact Sw.dv_r t b
        · rw [e]; exact Int.neg_dvd.mpr (Sw.dv_r t b)
      have e1:t.fdiv c=Sw.rN t b:=by
        rw [Int.fdiv_eq_ediv_of_dvd d1]
        unfold Sw.rN
        rcases hc with ⟨e,q⟩ | ⟨e,q⟩
        · rw [if_neg q,e]
        · rw [if_pos q,e]
      have e2:b.fdiv c=Sw.rD t b:=by
        rw [Int.fdiv_eq_ediv_of_dvd d2]
        unfold Sw.rD
        rcases hc with ⟨e,q⟩ | ⟨e,q⟩
        · rw [if_neg q,e]
        · rw [if_pos q,e]
      rw [e1,e2]
      exact ⟨⟨c0,cz⟩,⟨c0,cz⟩,k⟩
    simp only [L2.tSeq]
    walk_at "rd"
    exact ite2 (fun c=>fin _ (.inr ⟨rfl,c⟩)) fun c=>fin _ (.inl ⟨rfl,c⟩)
def spPlus:Sp:=fun vs H Q _=>∃ p q a b z,vs = [.ref p,.ref q]∧H p=some (.tup (fq a))∧H q=some (.tup (fq b))∧z≤2400∧Sw.SzQ z a∧Sw.SzQ z b∧∀ r,H r=none→Q (.ref r) (upd H r (.tup (fq (a+b))))
theorem d_plus (T:Txt K mg c_Tide):Def P w K mg base (CXX P w) 3 "plus" ["one", "other"] spPlus:=by
  have D_ratio:=d_ratio (P:=P) (w:=w) (base:=base) T
  refine T.src_plus.okN (k:=2) sc_plus (fun vs H Q E h=>?_) (fun f cdv A outer s H vs Q E hr h=>?_)
  · obtain ⟨p,q,a,b,z,rfl,_⟩:=h
    rfl
  · obtain ⟨p,q,a,b,z,rfl,hp,hq,hz,s1,s2,k⟩:=h
    refine ⟨_,(pss_one (ps_ret (pe_callX D_ratio (hr.mono (by decide)) rfl passN (pa_cons (pe_op op_add (pe_op op_mulL (pe_ix (ix_tupK K rfl) (pv 0) pe_int (fun _ _=>rfl)) (pe_ix (ix_tupK K rfl) (pv 1) pe_int (fun _ _=>rfl))) (pe_op op_mulL (pe_ix (ix_tupK K rfl) (pv 1) pe_int (fun _ _=>rfl)) (pe_ix (ix_tupK K rfl) (pv 0) pe_int (fun _ _=>rfl)))) (pa_cons (pe_op op_mulL (pe_ix (ix_tupK K rfl) (pv 0) pe_int (fun _ _=>rfl)) (pe_ix (ix_tupK K rfl) (pv 1) pe_int (fun _ _=>rfl))) pa_nil))))),?_⟩
    show tRet _ _ [some (.ref p),some (.ref q)] H
    have hab:=Int.mul_ne_zero (Sw.q_den_ne a) (Sw.q_den_ne b)
    walk_at "rd"
    refine ixT_at (.of hp) rfl (ixT_at (.of hq) rfl ?_)
    walk_at "rd"
    refine ⟨⟨s1.n.mono (by omega),s2.d.mono (by omega)⟩,ixT_at (.of hq) rfl (ixT_at (.of hp) rfl ?_)⟩
    walk_at "rd"
    refine ⟨⟨s2.n.mono (by omega),s1.d.mono (by omega)⟩,ixT_at (.of hp) rfl (ixT_at (.of hq) rfl ?_)⟩
    walk_at "rd"
    refine ⟨⟨s1.d.mono (by omega),s2.d.mono (by omega)⟩,_,_,z+z,rfl,by omega,s1.d.mul s2.d,fun _=>?_,fun z=>absurd z hab⟩
    rw [Sw.add_q]
    exact k
def spMinus:Sp:=fun vs H Q _=>∃ p q a b z,vs = [.ref p,.ref q]∧H p=some (.tup (fq a))∧H q=some (.tup (fq b))∧z≤2400∧Sw.SzQ z a∧Sw.SzQ z b∧∀ r,H r=none→Q (.ref r) (upd H r (.tup (fq (a-b))))
theorem d_minus (T:Txt K mg c_Tide):Def P w K mg base (CXX P w) 3 "minus" ["one", "other"] spMinus:=by
  have D_ratio:=d_ratio (P:=P) (w:=w) (base:=base) T
  refine T.src_minus.okN (k:=2) sc_minus (fun vs H Q E h=>?_) (fun f cdv A outer s H vs Q E hr h=>?_)
  · obtain ⟨p,q,a,b,z,rfl,_⟩:=h
    rfl
  · obtain ⟨p,q,a,b,z,rfl,hp,hq,hz,s1,s2,k⟩:=h
    refine ⟨_,(pss_one (ps_ret (pe_callX D_ratio (hr.mono (by decide)) rfl passN (pa_cons (pe_op op_sub (pe_op op_mulL (pe_ix (ix_tupK K rfl) (pv 0) pe_int (fun _ _=>rfl)) (pe_ix (ix_tupK K rfl) (pv 1) pe_int (fun _ _=>rfl))) (pe_op op_mulL (pe_ix (ix_tupK K rfl) (pv 1) pe_int (fun _ _=>rfl)) (pe_ix (ix_tupK K rfl) (pv 0) pe_int (fun _ _=>rfl)))) (pa_cons (pe_op op_mulL (pe_ix (ix_tupK K rfl) (pv 0) pe_int (fun _ _=>rfl)) (pe_ix (ix_tupK K rfl) (pv 1) pe_int (fun _ _=>rfl))) pa_nil))))),?_⟩
    show tRet _ _ [some (.ref p),some (.ref q)] H
    have hab:=Int.mul_ne_zero (Sw.q_den_ne a) (Sw.q_den_ne b)
    walk_at "rd"
    refine ixT_at (.of hp) rfl (ixT_at (.of hq) rfl ?_)
    walk_at "rd"
    refine ⟨⟨s1.n.mono (by omega),s2.d.mono (by omega)⟩,ixT_at (.of hq) rfl (ixT_at (.of hp) rfl ?_)⟩
    walk_at "rd"
    refine ⟨⟨s2.n.mono (by omega),s1.d.mono (by omega)⟩,ixT_at (.of hp) rfl (ixT_at (.of hq) rfl ?_)⟩
    walk_at "rd"
    refine ⟨⟨s1.d.mono (by omega),s2.d.mono (by omega)⟩,_,_,z+z,rfl,by omega,s1.d.mul s2.d,fun _=>?_,fun z=>absurd z hab⟩
    rw [Sw.sub_q]
    exact k
def spTimes:Sp:=fun vs H Q _=>∃ p q a b z,vs = [.ref p,.ref q]∧H p=some (.tup (fq a))∧H q=some (.tup (fq b))∧z≤2400∧Sw.SzQ z a∧Sw.SzQ z b∧∀ r,H r=none→Q (.ref r) (upd H r (.tup (fq (a*b))))
theorem d_times (T:Txt K mg c_Tide):Def P w K mg base (CXX P w) 3 "times" ["one", "other"] spTimes:=by
  have D_ratio:=d_ratio (P:=P) (w:=w) (base:=base) T
  refine T.src_times.okN (k:=2) sc_times (fun vs H Q E h=>?_) (fun f cdv A outer s H vs Q E hr h=>?_)
  · obtain ⟨p,q,a,b,z,rfl,_⟩:=h
    rfl
  · obtain ⟨p,q,a,b,z,rfl,hp,hq,hz,s1,s2,k⟩:=h
    refine ⟨_,(pss_one (ps_ret (pe_callX D_ratio (hr.mono (by decide)) rfl passN (pa_cons (pe_op op_mulL (pe_ix (ix_tupK K rfl) (pv 0) pe_int (fun _ _=>rfl)) (pe_ix (ix_tupK K rfl) (pv 1) pe_int (fun _ _=>rfl))) (pa_cons (pe_op op_mulL (pe_ix (ix_tupK K rfl) (pv 0) pe_int (fun _ _=>rfl)) (pe_ix (ix_tupK K rfl) (pv 1) pe_int (fun _ _=>rfl))) pa_nil))))),?_⟩
    show tRet _ _ [some (.ref p),some (.ref q)] H
    have hab:=Int.mul_ne_zero (Sw.q_den_ne a) (Sw.q_den_ne b)
    walk_at "rd"
    refine ixT_at (.of hp) rfl (ixT_at (.of hq) rfl ?_)
    walk_at "rd"
    refine ⟨⟨s1.n.mono (by omega),s2.n.mono (by omega)⟩,ixT_at (.of hp) rfl (ixT_at (.of hq) rfl ?_)⟩
    walk_at "rd"
    refine ⟨⟨s1.d.mono (by omega),s2.d.mono (by omega)⟩,_,_,z+z,rfl,by omega,s1.d.mul s2.d,fun _=>?_,fun z=>absurd z hab⟩
    rw [Sw.mul_q]
    exact k
def spOver:Sp:=fun vs H Q _=>∃ p q a b z,vs = [.ref p,.ref q]∧H p=some (.tup (fq a))∧H q=some (.tup (fq b))∧z≤2400∧Sw.SzQ z a∧Sw.SzQ z b∧b≠0∧∀ r,H r=none→Q (.ref r) (upd H r (.tup (fq (a / b))))
theorem d_over (T:Txt K mg c_Tide):Def P w K mg base (CXX P w) 3 "over" ["one", "other"] spOver:=by
  have D_ratio:=d_ratio (P:=P) (w:=w) (base:=base) T
  refine T.src_over.okN (k:=2) sc_over (fun vs H Q E h=>?_) (fun f cdv A outer s H vs Q E hr h=>?_)
  · obtain ⟨p,q,a,b,z,rfl,_⟩:=h
    rfl
  · obtain ⟨p,q,a,b,z,rfl,hp,hq,hz,s1,s2,hb,k⟩:=h
    refine ⟨_,(pss_one (ps_ret (pe_callX D_ratio (hr.mono (by decide)) rfl passN (pa_cons (pe_op op_mulL (pe_ix (ix_tupK K rfl) (pv 0) pe_int (fun _ _=>rfl)) (pe_ix (ix_tupK K rfl) (pv 1) pe_int (fun _ _=>rfl))) (pa_cons (pe_op op_mulL (pe_ix (ix_tupK K rfl) (pv 0) pe_int (fun _ _=>rfl)) (pe_ix (ix_tupK K rfl) (pv 1) pe_int (fun _ _=>rfl))) pa_nil))))),?_⟩
    show tRet _ _ [some (.ref p),some (.ref q)] H
    have hn:=Sw.q_num_ne hb
    have hab:=Int.mul_ne_zero (Sw.q_den_ne a) hn
    walk_at "rd"
    refine ixT_at (.of hp) rfl (ixT_at (.of hq) rfl ?_)
    walk_at "rd"
    refine ⟨⟨s1.n.mono (by omega),s2.d.mono (by omega)⟩,ixT_at (.of hp) rfl (ixT_at (.of hq) rfl ?_)⟩
    walk_at "rd"
    refine ⟨⟨s1.d.mono (by omega),s2.n.mono (by omega)⟩,_,_,z+z,rfl,by omega,s1.d.mul s2.n,fun _=>?_,fun z=>absurd z hab⟩
    rw [Sw.div_q a b hn]
    exact k
def spUnder:Sp:=fun vs H Q _=>∃ p q a b,vs = [.ref p,.ref q]∧H p=some (.tup (fq a))∧H q=some (.tup (fq b))∧Sw.SzQ 5000 a∧Sw.SzQ 5000 b∧Q (.bl (decide (a<b))) H
theorem d_under (T:Txt K mg c_Tide):Def P w K mg base (CXX P w) 1 "under" ["one", "other"] spUnder:=by
  refine T.src_under.okN (k:=0) sc_under (fun vs H Q E h=>?_) (fun f cdv A outer s H vs Q E hr h=>?_)
  · obtain ⟨p,q,a,b,rfl,_⟩:=h
    rfl
  · obtain ⟨p,q,a,b,rfl,hp,hq,s1,s2,k⟩:=h
    refine ⟨_,(pss_one (ps_ret (pe_cmpR op_lt (pe_op op_mulL (pe_ix (ix_tupK K rfl) (pv 0) pe_int (fun _ _=>rfl)) (pe_ix (ix_tupK K rfl) (pv 1) pe_int (fun _ _=>rfl))) (pe_op op_mulL (pe_ix (ix_tupK K rfl) (pv 1) pe_int (fun _ _=>rfl)) (pe_ix (ix_tupK K rfl) (pv 0) pe_int (fun _ _=>rfl))) (nomark _)))),?_⟩
    show tRet _ _ [some (.ref p),some (.ref q)] H
    walk_at "rd"
    refine ixT_at (.of hp) rfl (ixT_at (.of hq) rfl ?_)
    walk_at "rd"
    refine ⟨⟨s1.n,s2.d⟩,ixT_at (.of hq) rfl (ixT_at (.of hp) rfl ?_)⟩
    walk_at "rd"
    refine ⟨⟨s2.n,s1.d⟩,?_⟩
    rw [show decide (a.num*(b.den:Int)<b.num*(a.den:Int))=decide (a<b) from decide_eq_decide.mpr Sw.q_lt]
    exact k
def spLesser:Sp:=fun vs H Q _=>∃ p q a b,vs = [.ref p,.ref q]∧H p=some (.tup (fq a))∧H q=some (.tup (fq b))∧Sw.SzQ 5000 a∧Sw.SzQ 5000 b∧∀ r,H r=none→Q (.ref r) (upd H r (.tup (fq (min a b))))
theorem d_lesser (T:Txt K mg c_Tide):Def P w K mg base (CXX P w) 2 "lesser" ["one", "other"] spLesser:=by
  have D_under:=d_under (P:=P) (w:=w) (base:=base) T
  refine T.src_lesser.okN (k:=1) sc_lesser (fun vs H Q E h=>?_) (fun f cdv A outer s H vs Q E hr h=>?_)
  · obtain ⟨p,q,a,b,rfl,_⟩:=h
    rfl
  · obtain ⟨p,q,a,b,rfl,hp,hq,s1,s2,k⟩:=h
    refine ⟨_,(pss_cons (ps_set (i:=2) sc_lesser.nd rfl (by first|left;rfl|right;rfl) (pe_ifExp (pt_val (pe_callX D_under (hr.mono (by decide)) rfl passN (pa_cons (pv 1) (pa_cons (pv 0) pa_nil)))) (pv 1) (pv 0))) (pss_one (ps_ret (pe_tup (pa_cons (pe_ix (ix_tupK K rfl) (pv 2) pe_int (fun _ _=>rfl)) (pa_cons (pe_ix (ix_tupK K rfl) (pv 2) pe_int (fun _ _=>rfl)) pa_nil)))))),?_⟩
    show tSeq _ _ _ [some (.ref p),some (.ref q),none] H
    refine seq_step fun R hR=>?_
    have key:∀ x c,H x=some (.tup (fq c))→c=min a b→R [some (.ref p),some (.ref q),some (.ref x)] H:=fun x c hx e=>by
      refine hR _ _ ?_
      walk_at "rd"
      subst e
      exact ixT_at (.of hx) rfl (ixT_at (.of hx) rfl k)
    walk_at "rd"
    refine ⟨q,p,b,a,rfl,hq,hp,s2,s1,?_⟩
    walk_at "rd"
    exact ite2 (fun h=>key q b hq (by rw [Rat.min_def]; grind)) fun h=>key p a hp (by rw [Rat.min_def]; grind)
def spGreater:Sp:=fun vs H Q _=>∃ p q a b,vs = [.ref p,.ref q]∧H p=some (.tup (fq a))∧H q=some (.tup (fq b))∧Sw.SzQ 5000 a∧Sw.SzQ 5000 b∧∀ r,H r=none→Q (.ref r) (upd H r (.tup (fq (max a b))))
theorem d_greater (T:Txt K mg c_Tide):Def P w K mg base (CXX P w) 2 "greater" ["one", "other"] spGreater:=by
  have D_under:=d_under (P:=P) (w:=w) (base:=base) T
  refine T.src_greater.okN (k:=1) sc_greater (fun vs H Q E h=>?_) (fun f cdv A outer s H vs Q E hr h=>?_)
  · obtain ⟨p,q,a,b,rfl,_⟩:=h
    rfl
  · obtain ⟨p,q,a,b,rfl,hp,hq,s1,s2,k⟩:=h
    refine ⟨_,(pss_cons (ps_set (i:=2) sc_greater.nd rfl (by first|left;rfl|right;rfl) (pe_ifExp (pt_val (pe_callX D_under (hr.mono (by decide)) rfl passN (pa_cons (pv 0) (pa_cons (pv 1) pa_nil)))) (pv 1) (pv 0))) (pss_one (ps_ret (pe_tup (pa_cons (pe_ix (ix_tupK K rfl) (pv 2) pe_int (fun _ _=>rfl)) (pa_cons (pe_ix (ix_tupK K rfl) (pv 2) pe_int (fun _ _=>rfl)) pa_nil)))))),?_⟩
    show tSeq _ _ _ [some (.ref p),some (.ref q),none] H
    refine seq_step fun R hR=>?_
    have key:∀ x c,H x=some (.tup (fq c))→c=max a b→R [some (.ref p),some (.ref q),some (.ref x)] H:=fun x c hx e=>by
      refine hR _ _ ?_
      walk_at "rd"
      subst e
      exact ixT_at (.of hx) rfl (ixT_at (.of hx) rfl k)
    walk_at "rd"
    refine ⟨p,q,a,b,rfl,hp,hq,s1,s2,?_⟩
    walk_at "rd"
    exact ite2 (fun h=>key q b hq (by rw [Rat.max_def]; grind)) fun h=>key p a hp (by rw [Rat.max_def]; grind)
def spLeast:Sp:=fun vs H Q _=>∃ l ps qs,vs = [.ref l]∧Lst fq H l ps qs∧qs≠[]∧(∀ q∈qs,Sw.SzQ 5000 q)∧∀ r H',Same H H'→H' r=some (.tup (fq (Sw.minL qs)))→Q (.ref r) H'
theorem d_least (T:Txt K mg c_Tide):Def P w K mg base (CXX P w) 3 "least" ["some"] spLeast:=by
  have D_lesser:=d_lesser (P:=P) (w:=w) (base:=base) T
  refine T.src_least.okN (k:=2) sc_least (fun vs H Q E h=>?_) (fun f cdv A outer s H vs Q E hr h=>?_)
  · obtain ⟨l,ps,qs,rfl,_⟩:=h
    rfl
  · obtain ⟨l,ps,qs,rfl,L,ne,sz,k⟩:=h
    refine ⟨_,(pss_cons (ps_set (i:=1) sc_least.nd rfl (by first|left;rfl|right;rfl) (pe_ix (ix_listK K rfl) (pv 0) pe_int (fun _ _=>rfl))) (pss_cons (ps_for PassesOwn.never rfl (pi_listK K rfl (pv 0)) (pg_name (i:=2) sc_least.nd rfl (by first|left;rfl|right;rfl)) (pss_one (ps_set (i:=1) sc_least.nd rfl (by first|left;rfl|right;rfl) (pe_callX D_lesser (hr.mono (by decide)) rfl passN (pa_cons (pv 1) (pa_cons (pv 2) pa_nil)))))) (pss_one (ps_ret (pv 1))))),?_⟩
    show tSeq _ _ _ [some (.ref l),none,none] H
    cases qs with
    | nil=>exact absurd rfl ne
    | cons q0 qr =>
      cases ps with
      | nil=>cases L.r
      | cons p0 pr =>
        have h0:H p0=some (.tup (fq q0)):=by
          cases L.r with
          | cons a b=>exact a
        refine seq_step fun R hR=>?_
        walk_at "rd"
        refine ixL_at (.of L.hl) (v:=.ref p0) (atI_nat (xs:=(p0 :: pr).map V.ref) (j:=0) rfl) (hR _ _ ?_)
        refine seq_step fun R hR=>?_
        refine for_step fun Z hZ=>?_
        walk_at "rd"
        refine ⟨⟨_,.of L.hl⟩,hZ _ _ ?_⟩
        refine for_list (K:=K) (a:=l) (xs:=(p0 :: pr).map V.ref) (fun i σ H'=>Same H H'∧∃ x c v,σ = [some (.ref l),some (.ref x),v]∧H' x=some (.tup (fq c))∧c=((q0 :: qr).take i).foldl min q0∧Sw.SzQ 5000 c) ⟨Same.refl _,p0,q0,none,rfl,h0,rfl,sz q0 (by simp)⟩ (fun i σ H' _ q=>.of (q.1 _ _ L.hl)) ?_ ?_
        · rintro i v σ H1 hv ⟨sm,x,c,v2,rfl,hx,hc,zc⟩
          obtain ⟨p,hp,rfl⟩:∃ p,(p0 :: pr)[i]? = some p∧V.ref p=v:=by
            rw [List.getElem?_map] at hv
            cases e:(p0 :: pr)[i]? with
            | none=>rw [e] at hv; cases hv
            | some z=>rw [e] at hv; exact ⟨z,rfl,Option.some.inj hv⟩
          obtain ⟨q,hq,hp2⟩:=tupsF_get L.r hp
          have zq:=sz q (List.mem_of_getElem? hq)
          show tAsg _ _ _ [some (.ref l),some (.ref x),some (.ref p)] H1
          refine nx_step fun R' hR'=>?_
          walk_at "rd"
          refine ⟨x,p,c,q,rfl,hx,sm _ _ hp2,zc,zq,fun r hr'=>hR' _ _ ?_⟩
          refine ⟨sm.trans (same_new hr'),r,min c q,_,rfl,upd_same,?_,zc.min zq⟩
          rw [take_succ_of hq,List.foldl_append,← hc]
          rfl
        · rintro σ H1 ⟨sm,x,c,v2,rfl,hx,hc,zc⟩
          refine hR _ _ ?_
          walk_at "rd"
          have ln:=tupsF_len L.r
          rw [List.take_of_length_le (by rw [List.length_map,ln]; exact Nat.le_refl _)] at hc
          rw [hc] at hx
          exact k x H1 sm hx
def spTotal:Sp:=fun vs H Q _=>∃ l ps qs,vs = [.ref l]∧Lst fq H l ps qs∧(∀ i,Sw.SzQ 1200 (Sw.tq (qs.take i)))∧(∀ q∈qs,Sw.SzQ 1200 q)∧∀ r H',Same H H'→H' r=some (.tup (fq (Sw.tq qs)))→Q (.ref r) H'
theorem d_total (T:Txt K mg c_Tide):Def P w K mg base (CXX P w) 4 "total" ["some"] spTotal:=by
  have D_ratio:=d_ratio (P:=P) (w:=w) (base:=base) T
  have D_plus:=d_plus (P:=P) (w:=w) (base:=base) T
  refine T.src_total.okN (k:=3) sc_total (fun vs H Q E h=>?_) (fun f cdv A outer s H vs Q E hr h=>?_)
  · obtain ⟨l,ps,qs,rfl,_⟩:=h
    rfl
  · obtain ⟨l,ps,qs,rfl,L,st,sz,k⟩:=h
    refine ⟨_,(pss_cons (ps_set (i:=1) sc_total.nd rfl (by first|left;rfl|right;rfl) (pe_callX D_ratio (hr.mono (by decide)) rfl passN (pa_cons pe_int (pa_cons pe_int pa_nil)))) (pss_cons (ps_for PassesOwn.never rfl (pi_listK K rfl (pv 0)) (pg_name (i:=2) sc_total.nd rfl (by first|left;rfl|right;rfl)) (pss_one (ps_set (i:=1) sc_total.nd rfl (by first|left;rfl|right;rfl) (pe_callX D_plus (hr.mono (by decide)) rfl passN (pa_cons (pv 1) (pa_cons (pv 2) pa_nil)))))) (pss_one (ps_ret (pv 1))))),?_⟩
    show tSeq _ _ _ [some (.ref l),none,none] H
    refine seq_step fun R hR=>?_
    walk_at "rd"
    refine ⟨_,_,70,rfl,by decide,Sw.Sz.r18 (by decide) (by decide),fun _ pm fm=>hR _ _ ?_,fun z=>absurd z (by decide)⟩
    rw [f01q]
    refine seq_step fun R hR=>?_
    refine for_step fun Z hZ=>?_
    walk_at "rd"
    have n1:=same_new (o:=.tup (fq 0)) fm
    refine ⟨⟨_,.of (n1 _ _ L.hl)⟩,hZ _ _ ?_⟩
    refine for_list (K:=K) (a:=l) (xs:=ps.map V.ref) (fun i σ H'=>Same H H'∧∃ x v,σ = [some (.ref l),some (.ref x),v]∧H' x=some (.tup (fq (Sw.tq (qs.take i))))) ⟨n1,pm,none,rfl,upd_same⟩ (fun i σ H' _ q=>.of (q.1 _ _ L.hl)) ?_ ?_
    · rintro i v σ H1 hv ⟨sm,x,v2,rfl,hx⟩
      obtain ⟨p,hp,rfl⟩:∃ p,ps[i]? = some p∧V.ref p=v:=by simpa using hv
      obtain ⟨q,hq,hp2⟩:=tupsF_get L.r hp
      have zq:=sz q (List.mem_of_getElem? hq)
      show tAsg _ _ _ [some (.ref l),some (.ref x),some (.ref p)] H1
      refine nx_step fun R' hR'=>?_
      walk_at "rd"
      refine ⟨x,p,_,q,1200,rfl,hx,sm _ _ hp2,by decide,st i,zq,fun r hr'=>hR' _ _ ?_⟩
      refine ⟨sm.trans (same_new hr'),r,_,rfl,?_⟩
      rw [upd_same,take_succ_of hq,Sw.tq_snoc]
    · rintro σ H1 ⟨sm,x,v2,rfl,hx⟩
      refine hR _ _ ?_
      walk_at "rd"
      have ln:=tupsF_len L.r
      rw [List.take_of_length_le (by rw [List.length_map,ln]; exact Nat.le_refl _)] at hx
      exact k x H1 sm hx
def spRates:Sp:=fun vs H Q _=>∃ l ps ss L,vs = [.ref l]∧SnL H l ps ss∧Sw.Plan ss L∧∀ H',Same H H'→Q .non H'
theorem d_check_rates (T:Txt K mg c_Tide):Def P w K mg base (CXX P w) 5 "check_rates" ["senders"] spRates:=by
  have D_total:=d_total (P:=P) (w:=w) (base:=base) T
  have D_under:=d_under (P:=P) (w:=w) (base:=base) T
  refine T.src_check_rates.okN (k:=4) sc_check_rates (fun vs H Q E h=>?_) (fun f cdv A outer s H vs Q E hr h=>?_)
  · obtain ⟨l,ps,ss,L,rfl,_⟩:=h
    rfl
  · obtain ⟨l,ps,ss,L,rfl,SL,PL,k⟩:=h
    refine ⟨_,(pss_cons (ps_set (i:=1) sc_check_rates.nd rfl (by first|left;rfl|right;rfl) (pe_callX D_total (hr.mono (by decide)) rfl passN (pa_cons (pe_lc ["share", "line"] [] rfl (by with_unfolding_all rfl) (by decide +kernel) rfl (by decide +kernel) (by exact True.intro) (by with_unfolding_all rfl) True.intro (pi_listK K rfl (pv 0)) (fun _ _ _=>(pg_tupK (n:=2) K rfl rfl (pgs_cons (pg_name (i:=0) (show (["share", "line"]:List Str).Nodup from by decide +kernel) rfl (by first|left;rfl|right;rfl)) (pgs_cons (pg_name (i:=1) (show (["share", "line"]:List Str).Nodup from by decide +kernel) rfl (by first|left;rfl|right;rfl)) pgs_nil)))) (fun _ _ _=>pifs_nil) (fun _ _ _=>(pe_ix (ix_tupK K rfl) (pv 1) pe_int (fun _ _=>rfl)))) pa_nil))) (pss_one (ps_if (pt_not (pt_val (pe_callX D_under (hr.mono (by decide)) rfl passN (pa_cons (pv 1) (pa_cons (pe_tup (pa_cons pe_int (pa_cons pe_int pa_nil))) pa_nil))))) (pss_one ps_never) pss_nil))),?_⟩
    show tSeq _ _ _ [some (.ref l),none] H
    have len:=SL.len
    have n8:=PL.n8
    refine seq_step fun R hR=>?_
    walk_at "rd"
    refine ⟨⟨_,.of SL.hl⟩,fun Dl hDl=>?_⟩
    refine comp_walk (xs:=ps.map V.ref) (fun m τ H'=>∃ v0 v1 es,τ = [v0,v1]∧Same H H'∧Lst fq H' Dl es ((ss.map fun s=>s.2.2).take m)) ⟨none,none,[],rfl,same_new hDl,⟨upd_same,.nil⟩⟩ (fun m τ H' _ ⟨_,_,_,_,s',_⟩=>.of (s' _ _ SL.hl)) ?_ ?_
    · rintro m y τ H1 hy ⟨v0,v1,es,rfl,s1,L1⟩
      obtain ⟨p,hp,rfl⟩:∃ p,ps[m]? = some p∧V.ref p=y:=by simpa using hy
      obtain ⟨sd,hsd,pl,pr,h1,h2,h3⟩:=paired_get SL.r hp
      have hm:m<ss.length:=(List.getElem?_eq_some_iff.mp hsd).1
      have el:=tupsF_len L1.r
      rw [List.length_take,List.length_map] at el
      refine ⟨p,_,rfl,.of (s1 _ _ h1),rfl,_,_,rfl,_,_,rfl,rfl,?_⟩
      simp only [tYes,if_true]
      walk_at "rd"
      refine ixT_at (.of (s1 _ _ h2)) rfl ?_
      have kt:∀ b xs,H1 b=some (.tup xs)→upd H1 Dl (.lst (es.map V.ref++[.ref pr])) b=some (.tup xs):=fun b xs e=>by
        rw [upd_ne (ne_of e L1.hl (by intro z; cases z))]; exact e
      have hx:(ss.map fun s=>s.2.2)[m]? = some sd.2.2:=by rw [List.getElem?_map,hsd]; rfl
      refine ⟨_,L1.hl,line_lt (by rw [List.length_map]; omega),fun b o e=>?_,es++[pr],?_⟩
      · rw [upd_ne (ne_of_none e hDl)]; exact s1 _ _ e
      · rw [take_succ_of hx]
        exact ⟨by rw [upd_same,List.map_append]; rfl,tupsF_snoc (kt _ _ (s1 _ _ h3)) (tupsF_keep L1.r kt)⟩
    rintro τ H1 ⟨v0,v1,es,rfl,s1,L1⟩
    rw [List.take_of_length_le (by rw [List.length_map,List.length_map]; omega)] at L1
    refine ⟨Dl,es,_,rfl,L1,fun i=>(Sw.rates_szs PL i).mono (by decide),fun q hq=>?_,fun r H2 s2 hr2=>hR _ _ ?_⟩
    · obtain ⟨i,hi⟩:=List.getElem?_of_mem hq
      rw [← Sw.rt_map] at hq
      obtain ⟨j,_,rfl⟩:=List.mem_map.mp hq
      exact (Sw.rt_sz PL j).mono (by decide)
    have sm:=s1.trans s2
    walk_at "rd"
    intro pa fa
    have n1:=same_new (o:=.tup [.int 1,.int 1]) fa
    have z:=Sw.rates_szs PL ss.length
    rw [List.take_of_length_le (by rw [List.length_map]; omega)] at z
    refine ⟨r,pa,_,((1:Int):Rat),rfl,n1 _ _ hr2,at_int (n:=1),z.mono (by decide),(Sw.SzQ.int (n:=1) (z:=4) (Sw.Sz.one _)).mono (by decide),?_⟩
    rw [decide_eq_true (show Sw.tq (ss.map fun s=>s.2.2)<((1:Int):Rat) from PL.lt)]
    walk_at "rd"
    exact k _ (sm.trans n1)
def spFull:Sp:=fun vs H Q _=>∃ l ps n h,vs = [.ref l]∧Lst fq H l ps (fr n h)∧n≤8∧(∀ i,Sw.SzQ 1200 (h i))∧∀ fl H',Same H H'→H fl=none→H' fl=some (.lst (((List.range n).filter fun i=>decide (0<h i)).map natI))→Q (.ref fl) H'
theorem d_full_ones (T:Txt K mg c_Tide):Def P w K mg base (CXX P w) 2 "full_ones" ["heaps"] spFull:=by
  have D_under:=d_under (P:=P) (w:=w) (base:=base) T
  refine T.src_full_ones.okN (k:=1) sc_full_ones (fun vs H Q E h=>?_) (fun f cdv A outer s H vs Q E hr h=>?_)
  · obtain ⟨l,ps,n,h,rfl,_⟩:=h
    rfl
  · obtain ⟨l,ps,n,h,rfl,L,n8,sz,k⟩:=h
    refine ⟨_,(pss_one (ps_ret (pe_lc ["number", "heap"] [] rfl (by with_unfolding_all rfl) (by decide +kernel) rfl (by decide +kernel) (by exact True.intro) (by with_unfolding_all rfl) True.intro (pi_enumK K rfl rfl T.no_enumerate (pa_cons (pv 0) pa_nil)) (fun _ _ _=>(pg_tupK (n:=2) K rfl rfl (pgs_cons (pg_name (i:=0) (show (["number", "heap"]:List Str).Nodup from by decide +kernel) rfl (by first|left;rfl|right;rfl)) (pgs_cons (pg_name (i:=1) (show (["number", "heap"]:List Str).Nodup from by decide +kernel) rfl (by first|left;rfl|right;rfl)) pgs_nil)))) (fun _ _ _=>(pifs_one (pt_val (pe_callX D_under (hr.mono (by decide)) rfl passN (pa_cons (pe_tup (pa_cons pe_int (pa_cons pe_int pa_nil))) (pa_cons (pv 1) pa_nil)))))) (fun _ _ _=>(pv 0))))),?_⟩
    show tRet _ _ [some (.ref l)] H
    have len:=tupsF_len L.r
    rw [fr_len] at len
    walk_at "rd"
    refine ⟨⟨_,.of L.hl⟩,fun Dl hDl=>?_⟩
    refine comp_enum (xs:=ps.map V.ref) (fun m τ H'=>∃ v0 v1,τ = [v0,v1]∧Same H H'∧H' Dl=some (.lst (((List.range m).filter fun i=>decide (0<h i)).map natI))) ⟨none,none,rfl,same_new hDl,upd_same⟩ (fun m τ H' _ ⟨_,_,_,s',_⟩=>.of (s' _ _ L.hl)) ?_ ?_
    · rintro m y τ H1 p hy ⟨v0,v1,rfl,s1,hD⟩ hp'
      obtain ⟨ph,hph,rfl⟩:∃ p,ps[m]? = some p∧V.ref p=y:=by simpa using hy
      have hm:m<n:=by have:=(List.getElem?_eq_some_iff.mp hph).1; omega
      obtain ⟨q,hq,hq2⟩:=tupsF_get L.r hph
      rw [fr_get h hm] at hq
      cases hq
      have sn:=same_new (o:=.tup [.int m,.ref ph]) hp'
      have s1:=s1.trans sn
      have hD:=sn _ _ hD
      refine ⟨p,_,rfl,.of upd_same,rfl,_,_,rfl,_,_,rfl,rfl,?_⟩
      generalize upd H1 p (.tup [.int m,.ref ph])=H2 at s1 hD ⊢
      clear sn hp'
      have lk:((List.range m).filter fun i=>decide (0<h i)).length≤8:=by
        have:=List.length_filter_le (fun i=>decide (0<h i)) (List.range m)
        rw [List.length_range] at this
        omega
      walk_at "rd"
      intro pa fa
      have n1:=same_new (o:=.tup [.int 0,.int 1]) fa
      have s1:=s1.trans n1
      have hD:=n1 _ _ hD
      refine ⟨pa,ph,((0:Int):Rat),_,rfl,at_int (n:=0),s1 _ _ hq2,(Sw.SzQ.int (n:=0) (z:=4) (Sw.Sz.zero _)).mono (by decide),(sz m).mono (by decide),?_⟩
      generalize upd H2 pa (.tup [.int 0,.int 1])=H3 at s1 hD ⊢
      have e0:decide (((0:Int):Rat)<h m)=decide (0<h m):=rfl
      rw [e0,List.range_succ,List.filter_append,List.filter_cons,List.filter_nil]
      walk_at "rd"
      refine ite2 (fun c=>?_) fun c=>?_
      · refine ⟨_,hD,line_lt (by rw [List.length_map]; omega),fun b o e=>?_,?_⟩
        · rw [upd_ne (ne_of_none e hDl)]; exact s1 _ _ e
        · rw [upd_same,if_pos c,List.map_append]; rfl
      · rw [if_neg c,List.append_nil]
        exact ⟨s1,hD⟩
    rintro τ H1 ⟨v0,v1,rfl,s1,hD⟩
    rw [List.length_map,len] at hD
    exact k Dl H1 s1 hDl hD
def spOuts:Sp:=fun vs H Q _=>∃ sl ps ss L hl hp h,vs = [.ref sl,.ref hl]∧SnL H sl ps ss∧Lst fq H hl hp (fr ss.length h)∧Sw.Plan ss L∧(∀ i,Sw.SzQ 1200 (h i))∧Sw.fullS ss h≠[]∧∀ ol op H',Same H H'→H ol=none→Lst fq H' ol op (fr ss.length (Sw.outS ss h))→Q (.ref ol) H'
theorem d_outs_of (T:Txt K mg c_Tide):Def P w K mg base (CXX P w) 5 "outs_of" ["senders", "heaps"] spOuts:=by
  have D_full_ones:=d_full_ones (P:=P) (w:=w) (base:=base) T
  have D_ratio:=d_ratio (P:=P) (w:=w) (base:=base) T
  have D_minus:=d_minus (P:=P) (w:=w) (base:=base) T
  have D_times:=d_times (P:=P) (w:=w) (base:=base) T
  have D_total:=d_total (P:=P) (w:=w) (base:=base) T
  refine T.src_outs_of.okN (k:=4) sc_outs_of (fun vs H Q E h=>?_) (fun f cdv A outer s H vs Q E hr h=>?_)
  · obtain ⟨sl,ps,ss,L,hl,hp,h,rfl,_⟩:=h
    rfl
  · obtain ⟨sl,ps,ss,L,hl,hp,h,rfl,SL,HL,PL,sz,ne,k⟩:=h
    refine ⟨_,(pss_cons (ps_set (i:=2) sc_outs_of.nd rfl (by first|left;rfl|right;rfl) (pe_callX D_full_ones (hr.mono (by decide)) rfl passN (pa_cons (pv 1) pa_nil))) (pss_cons (ps_set (i:=3) sc_outs_of.nd rfl (by first|left;rfl|right;rfl) (pe_callB (call_sumK K rfl rfl) rfl T.no_sum boot_sum (pa_cons (pe_lc ["number"] [("senders", 0)] rfl (by with_unfolding_all rfl) (by decide +kernel) rfl (by decide +kernel) (by exact ⟨rfl,True.intro⟩) (by with_unfolding_all rfl) ⟨⟨rfl,rfl,rfl⟩,True.intro⟩ (pi_listK K rfl (pv 2)) (fun _ _ _=>(pg_name (i:=0) (show (["number", "senders"]:List Str).Nodup from by decide +kernel) rfl (by first|left;rfl|right;rfl))) (fun _ _ _=>pifs_nil) (fun _ _ _=>(pe_ix (ix_tupK K rfl) (pe_ix (ix_listK K rfl) (pv 1) (pv 0) (fun _ _=>rfl)) pe_int (fun _ _=>rfl)))) pa_nil))) (pss_cons (ps_setL (i0:=4) ["share", "line"] [] rfl (by with_unfolding_all rfl) (by decide +kernel) rfl (by decide +kernel) (by exact True.intro) (by with_unfolding_all rfl) True.intro (pi_listK K rfl (pv 0)) (fun _ _ _=>(pg_tupK (n:=2) K rfl rfl (pgs_cons (pg_name (i:=0) (show (["share", "line"]:List Str).Nodup from by decide +kernel) rfl (by first|left;rfl|right;rfl)) (pgs_cons (pg_name (i:=1) (show (["share", "line"]:List Str).Nodup from by decide +kernel) rfl (by first|left;rfl|right;rfl)) pgs_nil)))) (fun _ _ _=>pifs_nil) (fun _ _ _=>(pe_callX D_ratio (hr.mono (by decide)) rfl passN (pa_cons (pe_ix (ix_tupK K rfl) (pe_ix (ix_tupK K rfl) (pv 1) pe_int (fun _ _=>rfl)) pe_int (fun _ _=>rfl)) (pa_cons (pe_ix (ix_tupK K rfl) (pe_ix (ix_tupK K rfl) (pv 1) pe_int (fun _ _=>rfl)) pe_int (fun _ _=>rfl)) pa_nil)))) (by with_unfolding_all rfl) sc_outs_of.nd rfl (by first|left;rfl|right;rfl)) (pss_cons (ps_set (i:=5) sc_outs_of.nd rfl (by first|left;rfl|right;rfl) (pe_callX D_minus (hr.mono (by decide)) rfl passN (pa_cons (pe_tup (pa_cons pe_int (pa_cons pe_int pa_nil))) (pa_cons (pe_callX D_total (hr.mono (by decide)) rfl passN (pa_cons (pe_lc ["number", "out"] [("full", 2)] rfl (by with_unfolding_all rfl) (by decide +kernel) rfl (by decide +kernel) (by exact ⟨rfl,True.intro⟩) (by with_unfolding_all rfl) ⟨⟨rfl,rfl,rfl⟩,True.intro⟩ (pi_enumK K rfl rfl T.no_enumerate (pa_cons (pv 4) pa_nil)) (fun _ _ _=>(pg_tupK (n:=2) K rfl rfl (pgs_cons (pg_name (i:=0) (show (["number", "out", "full"]:List Str).Nodup from by decide +kernel) rfl (by first|left;rfl|right;rfl)) (pgs_cons (pg_name (i:=1) (show (["number", "out", "full"]:List Str).Nodup from by decide +kernel) rfl (by first|left;rfl|right;rfl)) pgs_nil)))) (fun _ _ _=>(pifs_one (pt_cmpR (op_notInK K rfl) (pv 0) (pv 2) rfl))) (fun _ _ _=>(pv 1))) pa_nil)) pa_nil)))) (pss_cons (ps_for PassesOwn.never rfl (pi_listK K rfl (pv 2)) (pg_name (i:=6) sc_outs_of.nd rfl (by first|left;rfl|right;rfl)) (pss_one (ps_asg (pe_callX D_times (hr.mono (by decide)) rfl passN (pa_cons (pv 5) (pa_cons (pe_callX D_ratio (hr.mono (by decide)) rfl passN (pa_cons (pe_ix (ix_tupK K rfl) (pe_ix (ix_listK K rfl) (pv 0) (pv 6) (fun _ _=>rfl)) pe_int (fun _ _=>rfl)) (pa_cons (pv 3) pa_nil))) pa_nil))) (pg_sub (pv 4) (pv 6) set_list)))) (pss_one (ps_ret (pv 4)))))))),?_⟩
    show tSeq _ _ _ [some (.ref sl),some (.ref hl),none,none,none,none,none] H
    have len:=SL.len
    have n8:=PL.n8
    have flen:(Sw.fullS ss h).length≤8:=by
      have:(Sw.fullS ss h).length≤(List.range ss.length).length:=List.length_filter_le _ _
      rw [List.length_range] at this
      omega
    refine seq_step fun R hR=>?_
    walk_at "rd"
    refine ⟨hl,hp,ss.length,h,rfl,HL,n8,sz,fun fl H1 s1 nfl hfl=>hR _ _ ?_⟩
    have hfl:H1 fl=some (.lst ((Sw.fullS ss h).map natI)):=hfl
    have SL1:=SL.same s1
    refine seq_step fun R hR=>?_
    walk_at "rd"
    refine ⟨⟨_,.of hfl⟩,fun Dl hDl=>?_⟩
    refine comp_walk (xs:=(Sw.fullS ss h).map natI) (fun m τ H'=>∃ v0,τ = [v0,some (.ref sl)]∧Same H1 H'∧H' Dl=some (.lst ((((Sw.fullS ss h).take m).map (Sw.shS ss)).map V.int))) ⟨none,rfl,same_new hDl,upd_same⟩ (fun m τ H' _ ⟨_,_,s',_⟩=>.of (s' _ _ hfl)) ?_ ?_
    · rintro m y τ H2 hy ⟨v0,rfl,s2,hD⟩
      obtain ⟨i,hi,rfl⟩:∃ p,(Sw.fullS ss h)[m]? = some p∧natI p=y:=by simpa using hy
      have hin:=(Sw.full_iff.mp (List.mem_of_getElem? hi)).1
      obtain ⟨p,pl,pr,_,xi,h1,h2,h3⟩:=(SL1.same s2).item hin
      walk_at "rd"
      simp only [tYes,if_true]
      walk_at "rd"
      refine ixL_at (.of (SL1.same s2).hl) xi ?_
      refine ixT_at (.of h1) rfl ?_
      refine ⟨_,hD,line_lt (by rw [List.length_map,List.length_map,List.length_take]; omega),fun b o e=>?_,?_⟩
      · rw [upd_ne (ne_of_none e hDl)]; exact s2 _ _ e
      · rw [upd_same,take_succ_of hi,List.map_append,List.map_append]; rfl
    rintro τ H2 ⟨v0,rfl,s2,hD⟩
    rw [List.take_of_length_le (by rw [List.length_map]; exact Nat.le_refl _)] at hD
    refine ⟨Dl,_,rfl,.of hD,hR _ _ ?_⟩
    have eS:((Sw.fullS ss h).map (Sw.shS ss)).sum=Sw.sumF ss h:=rfl
    rw [eS]
    have SL2:=SL1.same s2
    have hfl2:=s2 _ _ hfl
    have sm2:=s1.trans s2
    clear hD hDl s1 s2 hfl SL1
    obtain ⟨S1,SLm⟩:=Sw.sumF_ok PL ne
    have Sz1:Sw.sumF ss h≤1000000000000000000:=by
      have:=Int.mul_le_mul_of_nonneg_right PL.L1 (show 0≤Sw.sumF ss h by omega)
      omega
    refine seq_step fun R hR=>?_
    walk_at "rd"
    refine ⟨⟨_,.of SL2.hl⟩,fun ol hol=>?_⟩
    refine comp_walk (xs:=ps.map V.ref) (fun m τ H'=>∃ v0 v1 es,τ = [v0,v1]∧Same H2 H'∧Lst fq H' ol es (fr m (Sw.rtS ss))) ⟨none,none,[],rfl,same_new hol,⟨upd_same,.nil⟩⟩ (fun m τ H' _ ⟨_,_,_,_,s',_⟩=>.of (s' _ _ SL2.hl)) ?_ ?_
    · rintro m y τ H3 hy ⟨v0,v1,es,rfl,s3,L3⟩
      obtain ⟨p,hp1,rfl⟩:∃ p,ps[m]? = some p∧V.ref p=y:=by simpa using hy
      have hm:m<ss.length:=by have:=(List.getElem?_eq_some_iff.mp hp1).1; omega
      obtain ⟨p',pl,pr,e1,_,h1,h2,h3⟩:=(SL2.same s3).item hm
      rw [hp1] at e1
      cases e1
      have el:=tupsF_len L3.r
      rw [fr_len] at el
      refine ⟨p,_,rfl,.of h1,rfl,_,_,rfl,_,_,rfl,rfl,?_⟩
      simp only [tYes,if_true]
      walk_at "rd"
      refine ixT_at (.of h2) rfl (ixT_at (.of h3) rfl (ixT_at (.of h2) rfl (ixT_at (.of h3) rfl ?_)))
      refine ⟨_,_,200,rfl,by decide,(Sw.rt_sz PL m).d,fun _ r fr1=>?_,fun z=>absurd z (Sw.q_den_ne _)⟩
      rw [Sw.q_self]
      have n2:=same_new (o:=.tup (fq (Sw.rtS ss m))) fr1
      have L2:=L3.same n2
      have kt:∀ b xs,upd H3 r (.tup (fq (Sw.rtS ss m))) b=some (.tup xs)→upd (upd H3 r (.tup (fq (Sw.rtS ss m)))) ol (.lst (es.map V.ref++[.ref r])) b=some (.tup xs):=fun b xs e=>by
        rw [upd_ne (ne_of e L2.hl (by intro z; cases z))]; exact e
      refine ⟨_,L2.hl,line_lt (by rw [List.length_map]; omega),fun b o e=>?_,es++[r],?_⟩
      · rw [upd_ne (ne_of_none e hol)]; exact n2 _ _ (s3 _ _ e)
      · rw [fr_snoc]
        exact ⟨by rw [upd_same,List.map_append]; rfl,tupsF_snoc (kt _ _ upd_same) (tupsF_keep L2.r kt)⟩
    rintro τ H3 ⟨v0,v1,es,rfl,s3,OL⟩
    rw [List.length_map,len] at OL
    refine hR _ _ ?_
    have nol:H ol=none:=sm2.free hol
    have nof:fl≠ol:=ne_of_none hfl2 hol
    have SL3:=SL2.same s3
    have hfl3:=s3 _ _ hfl2
    have sm3:=sm2.trans s3
    clear s3 sm2 hfl2 SL2 hol
    have esl:=tupsF_len OL.r
    rw [fr_len] at esl
    refine seq_step fun R hR=>?_
    walk_at "rd"
    intro pa fa
    have n1:=same_new (o:=.tup [.int 1,.int 1]) fa
    have hpa:upd H3 pa (.tup [.int 1,.int 1]) pa=some (.tup (fq ((1:Int):Rat))):=at_int (n:=1)
    have OL:=OL.same n1
    have SL3:=SL3.same n1
    have hfl3:=n1 _ _ hfl3
    have sm3:=sm3.trans n1
    generalize upd H3 pa (.tup [.int 1,.int 1])=H4 at hpa OL SL3 hfl3 sm3 ⊢
    clear n1 fa
    refine ⟨⟨_,.of OL.hl⟩,fun Cl hCl=>?_⟩
    refine comp_enum (xs:=es.map V.ref) (fun m τ H'=>∃ v0 v1 cs,τ = [v0,v1,some (.ref fl)]∧Same H4 H'∧Lst fq H' Cl cs (((List.range m).filter fun i=>!decide (i∈Sw.fullS ss h)).map (Sw.rtS ss))∧cs.length≤m) ⟨none,none,[],rfl,same_new hCl,⟨upd_same,.nil⟩,Nat.le_refl _⟩ (fun m τ H' _ ⟨_,_,_,_,s',_⟩=>.of (s' _ _ OL.hl)) ?_ ?_
    · rintro m y τ H5 p hy ⟨v0,v1,cs,rfl,s5,L5,le⟩ hp'
      obtain ⟨px,hpx,rfl⟩:∃ p,es[m]? = some p∧V.ref p=y:=by simpa using hy
      have hm:m<ss.length:=by have:=(List.getElem?_eq_some_iff.mp hpx).1; omega
      obtain ⟨q,hq,hq2⟩:=tupsF_get OL.r hpx
      rw [fr_get _ hm] at hq
      cases hq
      have sn:=same_new (o:=.tup [.int m,.ref px]) hp'
      have s5:=s5.trans sn
      have L5:=L5.same sn
      refine ⟨p,_,rfl,.of upd_same,rfl,_,_,rfl,_,_,rfl,rfl,?_⟩
      generalize upd H5 p (.tup [.int m,.ref px])=H6 at s5 L5 ⊢
      clear sn hp'
      walk_at "rd"
      refine ⟨fl,_,rfl,.inl (.of (s5 _ _ hfl3)),rfl,flat_natI _,?_⟩
      have ein:(if true=true then !inV (.int (m:Nat)) ((Sw.fullS ss h).map natI) else inV (.int (m:Nat)) ((Sw.fullS ss h).map natI)) = !decide (m∈Sw.fullS ss h):=by rw [if_pos rfl,inV_natI]
      rw [ein,List.range_succ,List.filter_append,List.filter_cons,List.filter_nil]
      by_cases c:m∈Sw.fullS ss h
      · rw [decide_eq_true c]
        walk_at "rd"
        exact ⟨s5,cs,L5,by omega⟩
      · rw [decide_eq_false c]
        walk_at "rd"
        have kt:∀ b xs,H6 b=some (.tup xs)→upd H6 Cl (.lst (cs.map V.ref++[.ref px])) b=some (.tup xs):=fun b xs e=>by
          rw [upd_ne (ne_of e L5.hl (by intro z; cases z))]; exact e
        refine ⟨_,L5.hl,line_lt (by rw [List.length_map]; omega),fun b o e=>?_,cs++[px],?_,by rw [List.length_append]; show cs.length+1≤_; omega⟩
        · rw [upd_ne (ne_of_none e hCl)]; exact s5 _ _ e
        · rw [List.map_append]
          exact ⟨by rw [upd_same,List.map_append]; rfl,tupsF_snoc (kt _ _ (s5 _ _ hq2)) (tupsF_keep L5.r kt)⟩
    rintro τ H5 ⟨v0,v1,cs,rfl,s5,L5,le⟩
    rw [List.length_map,esl] at L5
    refine ⟨Cl,cs,Sw.restS ss h,rfl,L5,fun i=>(Sw.rest_szs PL h i).mono (by decide),fun q hq=>?_,fun tr H6 s6 htr=>?_⟩
    · obtain ⟨j,_,rfl⟩:=List.mem_map.mp hq
      exact (Sw.rt_sz PL j).mono (by decide)
    have s6:=s5.trans s6
    have zr:=Sw.rest_szs PL h (Sw.restS ss h).length
    rw [List.take_length] at zr
    refine ⟨pa,tr,((1:Int):Rat),_,1200,rfl,s6 _ _ hpa,htr,by decide,(Sw.SzQ.int (n:=1) (z:=4) (Sw.Sz.one _)).mono (by decide),zr.mono (by decide),fun lf flf=>hR _ _ ?_⟩
    have el:((1:Int):Rat)-Sw.tq (Sw.restS ss h)=Sw.leftS ss h:=rfl
    rw [el]
    have n2:=same_new (o:=.tup (fq (Sw.leftS ss h))) flf
    have hlf:upd H6 lf (.tup (fq (Sw.leftS ss h))) lf=some (.tup (fq (Sw.leftS ss h))):=upd_same
    have s6:=s6.trans n2
    have OL:=OL.same s6
    have SL3:=SL3.same s6
    have hfl3:=s6 _ _ hfl3
    have sm3:=sm3.trans s6
    generalize upd H6 lf (.tup (fq (Sw.leftS ss h)))=H7 at hlf OL SL3 hfl3 sm3 ⊢
    clear n2 flf s6 s5 L5 htr hpa hCl
    refine seq_step fun R hR=>?_
    refine for_step fun Z hZ=>?_
    walk_at "rd"
    refine ⟨⟨_,.of hfl3⟩,hZ _ _ ?_⟩
    refine for_list (K:=K) (a:=fl) (xs:=(Sw.fullS ss h).map natI) (fun m σ H'=>∃ v6 os,σ = [some (.ref sl),some (.ref hl),some (.ref fl),some (.int (Sw.sumF ss h)),some (.ref ol),some (.ref lf),v6]∧(∀ b o,b≠ol→H7 b=some o→H' b=some o)∧Lst fq H' ol os (fr ss.length (fun i=>if i∈(Sw.fullS ss h).take m then Sw.leftS ss h*((Sw.shS ss i:Rat) / (Sw.sumF ss h:Rat)) else Sw.rtS ss i))) ⟨none,es,rfl,fun _ _ _ e=>e,by simpa using OL⟩ (fun m σ H' _ ⟨_,_,_,kp,_⟩=>.of (kp _ _ nof hfl3)) ?_ ?_
    · rintro m y σ H8 hy ⟨v6,os,rfl,kp,O8⟩
      obtain ⟨i,hi,rfl⟩:∃ p,(Sw.fullS ss h)[m]? = some p∧natI p=y:=by simpa using hy
      have hin:=(Sw.full_iff.mp (List.mem_of_getElem? hi)).1
      obtain ⟨p,pl,pr,_,xi,h1,h2,h3⟩:=SL3.item hin
      have osl:=tupsF_len O8.r
      rw [fr_len] at osl
      have nsl:sl≠ol:=ne_of_none SL.hl nol
      have kt:∀ b xs,H7 b=some (.tup xs)→H8 b=some (.tup xs):=fun b xs e=>kp _ _ (ne_of e OL.hl (by intro z; cases z)) e
      show tAsg _ _ _ [some (.ref sl),some (.ref hl),some (.ref fl),some (.int (Sw.sumF ss h)),some (.ref ol),some (.ref lf),some (.int (i:Int))] H8
      refine nx_step fun N hN=>?_
      walk_at "rd"
      refine ixL_at (.of (kp _ _ nsl SL3.hl)) xi ?_
      refine ixT_at (.of (kt _ _ h1)) rfl ?_
      have shb:1≤Sw.shS ss i∧Sw.shS ss i≤1000000000000000000:=by
        obtain ⟨s0,hs0,e0,_⟩:=Sw.at_mem hin
        have:=PL.s1 s0 hs0
        refine ⟨by rw [e0]; exact this,?_⟩
        have:=Sw.sh_le PL (List.mem_of_getElem? hi)
        omega
      refine ⟨_,_,70,rfl,by decide,Sw.Sz.r18 (by omega) (by omega),fun _ r1 f1=>?_,fun z=>absurd z (by omega)⟩
      have m1:=same_new (o:=.tup (fq ((Sw.shS ss i:Rat) / (Sw.sumF ss h:Rat)))) f1
      refine ⟨lf,r1,Sw.leftS ss h,_,1200,rfl,m1 _ _ (kt _ _ hlf),upd_same,by decide,(Sw.left_sz PL h).mono (by decide),(Sw.SzQ.of (z:=70) (by omega) rfl (Sw.Sz.r18 (by omega) (by omega)) (Sw.Sz.r18 (by omega) (by omega))).mono (by decide),fun r2 f2=>?_⟩
      have m2:=same_new (o:=.tup (fq (Sw.leftS ss h*((Sw.shS ss i:Rat) / (Sw.sumF ss h:Rat))))) f2
      have m12:=m1.trans m2
      have hr2:upd (upd H8 r1 (.tup (fq ((Sw.shS ss i:Rat) / (Sw.sumF ss h:Rat))))) r2 (.tup (fq (Sw.leftS ss h*((Sw.shS ss i:Rat) / (Sw.sumF ss h:Rat))))) r2=some (.tup (fq (Sw.leftS ss h*((Sw.shS ss i:Rat) / (Sw.sumF ss h:Rat))))):=upd_same
      generalize upd (upd H8 r1 (.tup (fq ((Sw.shS ss i:Rat) / (Sw.sumF ss h:Rat))))) r2 (.tup (fq (Sw.leftS ss h*((Sw.shS ss i:Rat) / (Sw.sumF ss h:Rat)))))=H9 at m12 hr2 ⊢
      clear m1 m2 f1 f2
      have O9:=O8.same m12
      simp only [gSub]
      walk_at "rd"
      refine ⟨ol,_,_,i,rfl,rfl,O9.hl,ixN_nat (by rw [List.length_map]; omega),hN _ _ ?_⟩
      refine ⟨_,os.set i r2,rfl,fun b o n e=>?_,?_⟩
      · rw [upd_ne n]; exact m12 _ _ (kp _ _ n e)
      · have kt9:∀ b xs,H9 b=some (.tup xs)→upd H9 ol (.lst ((os.map V.ref).set i (.ref r2))) b=some (.tup xs):=fun b xs e=>by
          rw [upd_ne (ne_of e O9.hl (by intro z; cases z))]; exact e
        have st:=tupsF_set (kt9 _ _ hr2) i (tupsF_keep O9.r kt9)
        rw [fr_set] at st
        refine ⟨by rw [upd_same,List.map_set],?_⟩
        rw [take_succ_of hi]
        have ec:∀ j,j<ss.length→(if j=i then Sw.leftS ss h*((Sw.shS ss i:Rat) / (Sw.sumF ss h:Rat)) else if j∈(Sw.fullS ss h).take m then Sw.leftS ss h*((Sw.shS ss j:Rat) / (Sw.sumF ss h:Rat)) else Sw.rtS ss j)=if j∈(Sw.fullS ss h).take m++[i] then Sw.leftS ss h*((Sw.shS ss j:Rat) / (Sw.sumF ss h:Rat)) else Sw.rtS ss j:=fun j _=>by
          by_cases c:j=i
          · subst c; simp
          · simp [c]
        rw [fr_congr ec] at st
        exact st
    · rintro σ H8 ⟨v6,os,rfl,kp,O8⟩
      refine hR _ _ ?_
      walk_at "rd"
      rw [List.take_of_length_le (by rw [List.length_map]; exact Nat.le_refl _)] at O8
      exact k ol os H8 (fun b o e=>kp _ _ (ne_of_none e nol) (sm3 _ _ e)) nol O8
def spTime:Sp:=fun vs H Q _=>∃ hl hp fl fp ss L h,vs = [.ref hl,.ref fl]∧Lst fq H hl hp (fr ss.length h)∧Lst fq H fl fp (fr ss.length (Sw.falS ss h))∧Sw.Plan ss L∧(∀ i,Sw.SzQ 1200 (h i))∧Sw.fullS ss h≠[]∧∀ r H',Same H H'→H' r=some (.tup (fq (Sw.tmS ss h)))→Q (.ref r) H'
theorem d_time_to_empty (T:Txt K mg c_Tide):Def P w K mg base (CXX P w) 4 "time_to_empty" ["heaps", "falls"] spTime:=by
  have D_under:=d_under (P:=P) (w:=w) (base:=base) T
  have D_over:=d_over (P:=P) (w:=w) (base:=base) T
  have D_least:=d_least (P:=P) (w:=w) (base:=base) T
  refine T.src_time_to_empty.okN (k:=3) sc_time_to_empty (fun vs H Q E h=>?_) (fun f cdv A outer s H vs Q E hr h=>?_)
  · obtain ⟨hl,hp,fl,fp,ss,L,h,rfl,_⟩:=h
    rfl
  · obtain ⟨hl,hp,fl,fp,ss,L,h,rfl,HL,FL,PL,sz,ne,k⟩:=h
    refine ⟨_,(pss_one (ps_ret (pe_callX D_least (hr.mono (by decide)) rfl passN (pa_cons (pe_lc ["heap", "fall"] [] rfl (by with_unfolding_all rfl) (by decide +kernel) rfl (by decide +kernel) (by exact True.intro) (by with_unfolding_all rfl) True.intro (pi_zipK K rfl rfl T.no_zip (pa_cons (pv 0) (pa_cons (pv 1) pa_nil))) (fun _ _ _=>(pg_tupK (n:=2) K rfl rfl (pgs_cons (pg_name (i:=0) (show (["heap", "fall"]:List Str).Nodup from by decide +kernel) rfl (by first|left;rfl|right;rfl)) (pgs_cons (pg_name (i:=1) (show (["heap", "fall"]:List Str).Nodup from by decide +kernel) rfl (by first|left;rfl|right;rfl)) pgs_nil)))) (fun _ _ _=>(pifs_one (pt_val (pe_callX D_under (hr.mono (by decide)) rfl passN (pa_cons (pe_tup (pa_cons pe_int (pa_cons pe_int pa_nil))) (pa_cons (pv 1) pa_nil)))))) (fun _ _ _=>(pe_callX D_over (hr.mono (by decide)) rfl passN (pa_cons (pv 0) (pa_cons (pv 1) pa_nil))))) pa_nil)))),?_⟩
    show tRet _ _ [some (.ref hl),some (.ref fl)] H
    have n8:=PL.n8
    have l1:=tupsF_len HL.r
    have l2:=tupsF_len FL.r
    rw [fr_len] at l1 l2
    have fz:=fun i=>Sw.fal_sz PL ne i
    walk_at "rd"
    simp only [iZip]
    walk_at "rd"
    refine ⟨⟨_,.of HL.hl⟩,⟨_,.of FL.hl⟩,fun Dl hDl=>?_⟩
    refine comp_zip (xs:=hp.map V.ref) (ys:=fp.map V.ref) (fun m τ H'=>∃ v0 v1 es,τ = [v0,v1]∧Same H H'∧Lst fq H' Dl es (((List.range m).filter fun i=>decide (0<Sw.falS ss h i)).map fun i=>h i / Sw.falS ss h i)∧es.length≤m) ⟨none,none,[],rfl,same_new hDl,⟨upd_same,.nil⟩,Nat.le_refl _⟩ (by rw [List.length_map,List.length_map]; omega) (fun m τ H' _ ⟨_,_,_,_,s',_⟩=>⟨.of (s' _ _ HL.hl),.of (s' _ _ FL.hl)⟩) ?_ ?_
    · rintro m x y τ H1 p hx hy ⟨v0,v1,es,rfl,s1,L1,le⟩ hp'
      obtain ⟨px,hpx,rfl⟩:∃ p,hp[m]? = some p∧V.ref p=x:=by simpa using hx
      obtain ⟨py,hpy,rfl⟩:∃ p,fp[m]? = some p∧V.ref p=y:=by simpa using hy
      have hm:m<ss.length:=by have:=(List.getElem?_eq_some_iff.mp hpx).1; omega
      obtain ⟨q,hq,hq2⟩:=tupsF_get HL.r hpx
      rw [fr_get h hm] at hq
      cases hq
      obtain ⟨q,hq,hq3⟩:=tupsF_get FL.r hpy
      rw [fr_get _ hm] at hq
      cases hq
      have sn:=same_new (o:=.tup [.ref px,.ref py]) hp'
      have s1:=s1.trans sn
      have L1:=L1.same sn
      refine ⟨p,_,rfl,.of upd_same,rfl,_,_,rfl,_,_,rfl,rfl,?_⟩
      generalize upd H1 p (.tup [.ref px,.ref py])=H2 at s1 L1 ⊢
      clear sn hp'
      walk_at "rd"
      intro pa fa
      have n1:=same_new (o:=.tup [.int 0,.int 1]) fa
      have s1:=s1.trans n1
      have L1:=L1.same n1
      refine ⟨pa,py,((0:Int):Rat),_,rfl,at_int (n:=0),s1 _ _ hq3,(Sw.SzQ.int (n:=0) (z:=4) (Sw.Sz.zero _)).mono (by decide),(fz m).mono (by decide),?_⟩
      generalize upd H2 pa (.tup [.int 0,.int 1])=H3 at s1 L1 ⊢
      have e0:decide (((0:Int):Rat)<Sw.falS ss h m)=decide (0<Sw.falS ss h m):=rfl
      rw [e0,List.range_succ,List.filter_append,List.filter_cons,List.filter_nil]
      walk_at "rd"
      refine ite2 (fun c=>?_) fun c=>?_
      · refine ⟨px,py,_,_,1200,rfl,s1 _ _ hq2,s1 _ _ hq3,by decide,sz m,(fz m).mono (by decide),fun z=>by rw [z] at c; exact absurd c (by decide),fun r hr'=>?_⟩
        have n2:=same_new (o:=.tup (fq (h m / Sw.falS ss h m))) hr'
        have L2:=L1.same n2
        have kt:∀ b xs,upd H3 r (.tup (fq (h m / Sw.falS ss h m))) b=some (.tup xs)→upd (upd H3 r (.tup (fq (h m / Sw.falS ss h m)))) Dl (.lst (es.map V.ref++[.ref r])) b=some (.tup xs):=fun b xs e=>by
          rw [upd_ne (ne_of e L2.hl (by intro z; cases z))]; exact e
        refine ⟨_,L2.hl,line_lt (by rw [List.length_map]; omega),fun b o e=>?_,es++[r],?_,by rw [List.length_append]; show es.length+1≤_; omega⟩
        · rw [upd_ne (ne_of_none e hDl)]; exact n2 _ _ (s1 _ _ e)
        · rw [if_pos c,List.map_append]
          exact ⟨by rw [upd_same,List.map_append]; rfl,tupsF_snoc (kt _ _ upd_same) (tupsF_keep L2.r kt)⟩
      · rw [if_neg c,List.append_nil]
        exact ⟨s1,es,L1,by omega⟩
    rintro τ H1 ⟨v0,v1,es,rfl,s1,L1,le⟩
    rw [List.length_map,l1] at L1
    refine ⟨Dl,es,Sw.tmsS ss h,rfl,L1,Sw.tms_ne PL ne,fun q hq=>?_,fun r H2 s2 h2=>k r H2 (s1.trans s2) h2⟩
    obtain ⟨i,_,c,rfl⟩:=Sw.tms_mem.mp hq
    exact ((sz i).div (Sw.q_num_ne (by grind)) (fz i)).mono (by decide)
def spCourse:Sp:=fun vs H Q _=>∃ l ps ss L,vs = [.ref l]∧SnL H l ps ss∧Sw.Plan ss L∧∀ cl cp m H',Same H H'→H cl=none→PtL ss H' cl cp m→EndS ss m→Q (.ref cl) H'
theorem d_course (T:Txt K mg c_Tide):Def P w K mg base (CXX P w) 6 "course" ["senders"] spCourse:=by
  have D_check_rates:=d_check_rates (P:=P) (w:=w) (base:=base) T
  have D_full_ones:=d_full_ones (P:=P) (w:=w) (base:=base) T
  have D_outs_of:=d_outs_of (P:=P) (w:=w) (base:=base) T
  have D_time_to_empty:=d_time_to_empty (P:=P) (w:=w) (base:=base) T
  have D_ratio:=d_ratio (P:=P) (w:=w) (base:=base) T
  have D_plus:=d_plus (P:=P) (w:=w) (base:=base) T
  have D_minus:=d_minus (P:=P) (w:=w) (base:=base) T
  have D_times:=d_times (P:=P) (w:=w) (base:=base) T
  refine T.src_course.okN (k:=5) sc_course (fun vs H Q E h=>?_) (fun f cdv A outer s H vs Q E hr h=>?_)
  · obtain ⟨l,ps,ss,L,rfl,_⟩:=h
    rfl
  · obtain ⟨l,ps,ss,L,rfl,SL,PL,k⟩:=h
    refine ⟨_,(pss_cons (ps_expr (pe_callX D_check_rates (hr.mono (by decide)) rfl passN (pa_cons (pv 0) pa_nil))) (pss_cons (ps_setL (i0:=1) ["share", "line"] [] rfl (by with_unfolding_all rfl) (by decide +kernel) rfl (by decide +kernel) (by exact True.intro) (by with_unfolding_all rfl) True.intro (pi_listK K rfl (pv 0)) (fun _ _ _=>(pg_tupK (n:=2) K rfl rfl (pgs_cons (pg_name (i:=0) (show (["share", "line"]:List Str).Nodup from by decide +kernel) rfl (by first|left;rfl|right;rfl)) (pgs_cons (pg_name (i:=1) (show (["share", "line"]:List Str).Nodup from by decide +kernel) rfl (by first|left;rfl|right;rfl)) pgs_nil)))) (fun _ _ _=>pifs_nil) (fun _ _ _=>(pe_callX D_ratio (hr.mono (by decide)) rfl passN (pa_cons (pe_ix (ix_tupK K rfl) (pv 1) pe_int (fun _ _=>rfl)) (pa_cons pe_int pa_nil)))) (by with_unfolding_all rfl) sc_course.nd rfl (by first|left;rfl|right;rfl)) (pss_cons (ps_set (i:=2) sc_course.nd rfl (by first|left;rfl|right;rfl) (pe_callX D_ratio (hr.mono (by decide)) rfl passN (pa_cons pe_int (pa_cons pe_int pa_nil)))) (pss_cons (ps_set (i:=3) sc_course.nd rfl (by first|left;rfl|right;rfl) (pe_lst pa_nil)) (pss_cons (ps_while PassesOwn.never (pt_truthK K rfl (pe_callX D_full_ones (hr.mono (by decide)) rfl passN (pa_cons (pv 1) pa_nil))) (pss_cons (ps_set (i:=4) sc_course.nd rfl (by first|left;rfl|right;rfl) (pe_callX D_outs_of (hr.mono (by decide)) rfl passN (pa_cons (pv 0) (pa_cons (pv 1) pa_nil)))) (pss_cons (ps_setL (i0:=5) ["number", "out"] [("senders", 0)] rfl (by with_unfolding_all rfl) (by decide +kernel) rfl (by decide +kernel) (by exact ⟨rfl,True.intro⟩) (by with_unfolding_all rfl) ⟨⟨rfl,rfl,rfl⟩,True.intro⟩ (pi_enumK K rfl rfl T.no_enumerate (pa_cons (pv 4) pa_nil)) (fun _ _ _=>(pg_tupK (n:=2) K rfl rfl (pgs_cons (pg_name (i:=0) (show (["number", "out", "senders"]:List Str).Nodup from by decide +kernel) rfl (by first|left;rfl|right;rfl)) (pgs_cons (pg_name (i:=1) (show (["number", "out", "senders"]:List Str).Nodup from by decide +kernel) rfl (by first|left;rfl|right;rfl)) pgs_nil)))) (fun _ _ _=>pifs_nil) (fun _ _ _=>(pe_callX D_minus (hr.mono (by decide)) rfl passN (pa_cons (pv 1) (pa_cons (pe_ix (ix_tupK K rfl) (pe_ix (ix_tupK K rfl) (pe_ix (ix_listK K rfl) (pv 2) (pv 0) (fun _ _=>rfl)) pe_int (fun _ _=>rfl)) pe_int (fun _ _=>rfl)) pa_nil)))) (by with_unfolding_all rfl) sc_course.nd rfl (by first|left;rfl|right;rfl)) (pss_cons (ps_set (i:=6) sc_course.nd rfl (by first|left;rfl|right;rfl) (pe_callX D_time_to_empty (hr.mono (by decide)) rfl passN (pa_cons (pv 1) (pa_cons (pv 5) pa_nil)))) (pss_cons (ps_set (i:=7) sc_course.nd rfl (by first|left;rfl|right;rfl) (pe_callX D_plus (hr.mono (by decide)) rfl passN (pa_cons (pv 2) (pa_cons (pv 6) pa_nil)))) (pss_cons (ps_expr (pe_bm PySem.F.plainAttrs_list PySem.F.slot_list_append PySem.F.type_list_append mt_append (pv 3) (pa_cons (pe_tup (pa_cons (pv 2) (pa_cons (pv 7) (pa_cons (pv 4) (pa_cons (pv 1) pa_nil))))) pa_nil))) (pss_cons (ps_setL (i0:=1) ["heap", "fall"] [("time", 6)] rfl (by with_unfolding_all rfl) (by decide +kernel) rfl (by decide +kernel) (by exact ⟨rfl,True.intro⟩) (by with_unfolding_all rfl) ⟨⟨rfl,rfl,rfl⟩,True.intro⟩ (pi_zipK K rfl rfl T.no_zip (pa_cons (pv 1) (pa_cons (pv 5) pa_nil))) (fun _ _ _=>(pg_tupK (n:=2) K rfl rfl (pgs_cons (pg_name (i:=0) (show (["heap", "fall", "time"]:List Str).Nodup from by decide +kernel) rfl (by first|left;rfl|right;rfl)) (pgs_cons (pg_name (i:=1) (show (["heap", "fall", "time"]:List Str).Nodup from by decide +kernel) rfl (by first|left;rfl|right;rfl)) pgs_nil)))) (fun _ _ _=>pifs_nil) (fun _ _ _=>(pe_callX D_minus (hr.mono (by decide)) rfl passN (pa_cons (pv 0) (pa_cons (pe_callX D_times (hr.mono (by decide)) rfl passN (pa_cons (pv 1) (pa_cons (pv 2) pa_nil))) pa_nil)))) (by with_unfolding_all rfl) sc_course.nd rfl (by first|left;rfl|right;rfl)) (pss_one (ps_set (i:=2) sc_course.nd rfl (by first|left;rfl|right;rfl) (pv 7)))))))))) (pss_one (ps_ret (pv 3)))))))),?_⟩
    show tSeq _ _ _ [some (.ref l),none,none,none,none,none,none,none] H
    have len:=SL.len
    have n8:=PL.n8
    refine seq_step fun R hR=>?_
    walk_at "rd"
    refine ⟨l,ps,ss,L,rfl,SL,PL,fun H1 s1=>hR _ _ ?_⟩
    have SL1:=SL.same s1
    refine seq_step fun R hR=>?_
    walk_at "rd"
    refine ⟨⟨_,.of SL1.hl⟩,fun hl hhl=>?_⟩
    refine comp_walk (xs:=ps.map V.ref) (fun m τ H'=>∃ v0 v1 es,τ = [v0,v1]∧Same H1 H'∧Lst fq H' hl es (fr m (Sw.crS ss 0).1)) ⟨none,none,[],rfl,same_new hhl,⟨upd_same,.nil⟩⟩ (fun m τ H' _ ⟨_,_,_,_,s',_⟩=>.of (s' _ _ SL1.hl)) ?_ ?_
    · rintro m y τ H3 hy ⟨v0,v1,es,rfl,s3,L3⟩
      obtain ⟨p,hp1,rfl⟩:∃ p,ps[m]? = some p∧V.ref p=y:=by simpa using hy
      have hm:m<ss.length:=by have:=(List.getElem?_eq_some_iff.mp hp1).1; omega
      obtain ⟨p',pl,pr,e1,_,h1,h2,h3⟩:=(SL1.same s3).item hm
      rw [hp1] at e1
      cases e1
      have el:=tupsF_len L3.r
      rw [fr_len] at el
      refine ⟨p,_,rfl,.of h1,rfl,_,_,rfl,_,_,rfl,rfl,?_⟩
      simp only [tYes,if_true]
      walk_at "rd"
      refine ixT_at (.of h2) rfl ?_
      refine ⟨_,_,70,rfl,by decide,Sw.Sz.r18 (by decide) (by decide),fun _ r fr1=>?_,fun z=>absurd z (by decide)⟩
      rw [fi1q]
      have n2:=same_new (o:=.tup (fq (Sw.buS ss m:Rat))) fr1
      have L2:=L3.same n2
      have kt:∀ b xs,upd H3 r (.tup (fq (Sw.buS ss m:Rat))) b=some (.tup xs)→upd (upd H3 r (.tup (fq (Sw.buS ss m:Rat)))) hl (.lst (es.map V.ref++[.ref r])) b=some (.tup xs):=fun b xs e=>by
        rw [upd_ne (ne_of e L2.hl (by intro z; cases z))]; exact e
      refine ⟨_,L2.hl,line_lt (by rw [List.length_map]; omega),fun b o e=>?_,es++[r],?_⟩
      · rw [upd_ne (ne_of_none e hhl)]; exact n2 _ _ (s3 _ _ e)
      · rw [fr_snoc]
        exact ⟨by rw [upd_same,List.map_append]; rfl,tupsF_snoc (kt _ _ upd_same) (tupsF_keep L2.r kt)⟩
    rintro τ H2 ⟨v0,v1,es,rfl,s2,HL⟩
    rw [List.length_map,len] at HL
    refine hR _ _ ?_
    have SL2:=SL1.same s2
    have sm:=s1.trans s2
    clear s1 s2 SL1 hhl
    refine seq_step fun R hR=>?_
    walk_at "rd"
    refine ⟨_,_,70,rfl,by decide,Sw.Sz.r18 (by decide) (by decide),fun _ pm fm=>hR _ _ ?_,fun z=>absurd z (by decide)⟩
    rw [f01q]
    have n1:=same_new (o:=.tup (fq 0)) fm
    have hpm:upd H2 pm (.tup (fq 0)) pm=some (.tup (fq 0)):=upd_same
    have SL2:=SL2.same n1
    have HL:=HL.same n1
    have sm:=sm.trans n1
    generalize upd H2 pm (.tup (fq 0))=H3 at hpm SL2 HL sm ⊢
    clear n1 fm
    refine seq_step fun R hR=>?_
    walk_at "rd"
    intro pl hpl
    refine hR _ _ ?_
    have npl:H pl=none:=sm.free hpl
    have n2:=same_new (o:=.lst []) hpl
    refine seq_step fun R hR=>?_
    refine while_g (fun m σ H'=>∃ k hl hp pm pp v4 v5 v6 v7,σ = [some (.ref l),some (.ref hl),some (.ref pm),some (.ref pl),v4,v5,v6,v7]∧Same H3 H'∧Lst fq H' hl hp (fr ss.length (Sw.crS ss k).1)∧H' pm=some (.tup (fq (Sw.crS ss k).2))∧H' pl=some (.lst (pp.map V.ref))∧Paired (Pt4 ss (mn H' pl)) pp (List.range k)∧(∀ j,j<k→Sw.fullS ss (Sw.crS ss j).1≠[])∧hl≠pl∧(Sw.fullS ss (Sw.crS ss k).1).length=m) ⟨0,hl,es,pm,[],none,none,none,none,rfl,n2,HL.same n2,n2 _ _ hpm,upd_same,.nil,fun j h=>absurd h (Nat.not_lt_zero _),ne_of_none HL.hl hpl,rfl⟩ ?_
    rintro m σ H4 ⟨kk,hl,hp,pm,pp,v4,v5,v6,v7,rfl,s4,HL,hpm,hpp,PP,go,nhl,em⟩ Q' hT hF
    obtain ⟨z,le⟩:=Sw.cr_ok PL kk go
    obtain ⟨zh,zm⟩:=z.sz (by omega)
    walk_at "rd"
    refine ⟨hl,hp,ss.length,(Sw.crS ss kk).1,rfl,HL,n8,zh,fun fl H5 s5 nfl hfl=>?_⟩
    have hfl:H5 fl=some (.lst ((Sw.fullS ss (Sw.crS ss kk).1).map natI)):=hfl
    have ppl:=Paired.length PP
    rw [List.length_range] at ppl
    by_cases ne:Sw.fullS ss (Sw.crS ss kk).1 = []
    · refine ⟨false,.inl ⟨_,.of hfl,?_⟩,hF _ ?_⟩
      · rw [ne]; rfl
      · refine hR _ _ ?_
        walk_at "rd"
        refine k pl pp kk H5 (fun b o e=>s5 _ _ (s4 _ _ (sm _ _ e))) npl ⟨s5 _ _ hpp,Paired.mapP PP fun _ _ q=>q.same (mn_same.trans s5)⟩ ⟨go,ne,by omega⟩
    · refine ⟨true,.inl ⟨_,.of hfl,?_⟩,hT _ ?_⟩
      · cases e:Sw.fullS ss (Sw.crS ss kk).1 with
        | nil=>exact absurd e ne
        | cons a b=>rfl
      have HL:=HL.same s5
      have hpm:=s5 _ _ hpm
      have hpp:=s5 _ _ hpp
      have PP:Paired (Pt4 ss (mn H5 pl)) pp (List.range kk):=Paired.mapP PP fun _ _ q=>q.same (mn_mono s5)
      have s4:=s4.trans s5
      have SL5:=SL2.same s4
      clear s5 nfl hfl
      have lt:=Sw.nx_full PL ne z.h0
      have le1:kk+1≤8:=by
        have:0<(Sw.fullS ss (Sw.crS ss kk).1).length:=List.length_pos_iff.mpr ne
        omega
      obtain ⟨zft,zt⟩:=Sw.tm_sz PL ne z (by omega)
      have zo:=fun i=>Sw.out_sz PL ne i
      have zf:=fun i=>Sw.fal_sz PL ne i
      have zr:=fun i=>Sw.rt_sz PL i
      have ez:Sw.crS ss (kk+1)=(Sw.nxH ss (Sw.crS ss kk).1,(Sw.crS ss kk).2+Sw.tmS ss (Sw.crS ss kk).1):=rfl
      show tSeq _ _ _ [some (.ref l),some (.ref hl),some (.ref pm),some (.ref pl),v4,v5,v6,v7] H5
      generalize eh:(Sw.crS ss kk).1=hh at ne HL z zh lt zft zt zo zf ez
      refine nx_step fun N hN=>?_
      refine seq_step fun R hR=>?_
      walk_at "rd"
      refine ⟨l,ps,ss,L,hl,hp,hh,rfl,SL5,HL,PL,zh,ne,fun ol op H6 s6 nol OL=>hR _ _ ?_⟩
      have nol2:ol≠pl:=fun e=>by rw [e,hpp] at nol; cases nol
      have HL:=HL.same s6
      have hpm:=s6 _ _ hpm
      have hpp:=s6 _ _ hpp
      have PP:Paired (Pt4 ss (mn H6 pl)) pp (List.range kk):=Paired.mapP PP fun _ _ q=>q.same (mn_mono s6)
      have s4:=s4.trans s6
      have SL6:=SL5.same s6
      clear s6 nol SL5
      have hpp6:=hpp
      have opl:=tupsF_len OL.r
      rw [fr_len] at opl
      refine seq_step fun R hR=>?_
      walk_at "rd"
      refine ⟨⟨_,.of OL.hl⟩,fun fl hfl=>?_⟩
      refine comp_enum (xs:=op.map V.ref) (fun m τ H'=>∃ v0 v1 es,τ = [v0,v1,some (.ref l)]∧Same H6 H'∧Lst fq H' fl es (fr m (Sw.falS ss hh))) ⟨none,none,[],rfl,same_new hfl,⟨upd_same,.nil⟩⟩ (fun m τ H' _ ⟨_,_,_,_,s',_⟩=>.of (s' _ _ OL.hl)) ?_ ?_
      · rintro m y τ H7 p hy ⟨v0,v1,es,rfl,s7,L7⟩ hp'
        obtain ⟨px,hpx,rfl⟩:∃ p,op[m]? = some p∧V.ref p=y:=by simpa using hy
        have hm:m<ss.length:=by have:=(List.getElem?_eq_some_iff.mp hpx).1; omega
        obtain ⟨q,hq,hq2⟩:=tupsF_get OL.r hpx
        rw [fr_get _ hm] at hq
        cases hq
        have el:=tupsF_len L7.r
        rw [fr_len] at el
        have sn:=same_new (o:=.tup [.int m,.ref px]) hp'
        have s7:=s7.trans sn
        have L7:=L7.same sn
        refine ⟨p,_,rfl,.of upd_same,rfl,_,_,rfl,_,_,rfl,rfl,?_⟩
        generalize upd H7 p (.tup [.int m,.ref px])=H8 at s7 L7 ⊢
        clear sn hp'
        obtain ⟨p',pl',pr,_,xi,h1,h2,h3⟩:=(SL6.same s7).item hm
        simp only [tYes,if_true]
        walk_at "rd"
        refine ixL_at (.of (SL6.same s7).hl) xi ?_
        refine ixT_at (.of h1) rfl (ixT_at (.of h2) rfl ?_)
        refine ⟨px,pr,_,_,1200,rfl,s7 _ _ hq2,h3,by decide,(zo m).mono (by decide),(zr m).mono (by decide),fun r fr1=>?_⟩
        have ef:Sw.outS ss hh m-Sw.rtS ss m=Sw.falS ss hh m:=rfl
        rw [ef]
        have n2:=same_new (o:=.tup (fq (Sw.falS ss hh m))) fr1
        have L2:=L7.same n2
        have kt:∀ b xs,upd H8 r (.tup (fq (Sw.falS ss hh m))) b=some (.tup xs)→upd (upd H8 r (.tup (fq (Sw.falS ss hh m)))) fl (.lst (es.map V.ref++[.ref r])) b=some (.tup xs):=fun b xs e=>by
          rw [upd_ne (ne_of e L2.hl (by intro z; cases z))]; exact e
        refine ⟨_,L2.hl,line_lt (by rw [List.length_map]; omega),fun b o e=>?_,es++[r],?_⟩
        · rw [upd_ne (ne_of_none e hfl)]; exact n2 _ _ (s7 _ _ e)
        · rw [fr_snoc]
          exact ⟨by rw [upd_same,List.map_append]; rfl,tupsF_snoc (kt _ _ upd_same) (tupsF_keep L2.r kt)⟩
      rintro τ H7 ⟨v0,v1,fp,rfl,s7,FL⟩
      rw [List.length_map,opl] at FL
      refine hR _ _ ?_
      have HL:=HL.same s7
      have OL:=OL.same s7
      have hpm:=s7 _ _ hpm
      have hpp:=s7 _ _ hpp
      have PP:Paired (Pt4 ss (mn H7 pl)) pp (List.range kk):=Paired.mapP PP fun _ _ q=>q.same (mn_mono s7)
      have s4:=s4.trans s7
      have nfl:fl≠pl:=fun e=>by rw [e,hpp6] at hfl; cases hfl
      clear s7 hfl SL6
      refine seq_step fun R hR=>?_
      walk_at "rd"
      refine ⟨hl,hp,fl,fp,ss,L,hh,rfl,HL,FL,PL,zh,ne,fun pt H8 s8 hpt=>hR _ _ ?_⟩
      have HL:=HL.same s8
      have OL:=OL.same s8
      have FL:=FL.same s8
      have hpm:=s8 _ _ hpm
      have hpp:=s8 _ _ hpp
      have PP:Paired (Pt4 ss (mn H8 pl)) pp (List.range kk):=Paired.mapP PP fun _ _ q=>q.same (mn_mono s8)
      have s4:=s4.trans s8
      clear s8
      refine seq_step fun R hR=>?_
      walk_at "rd"
      refine ⟨pm,pt,_,_,1200,rfl,hpm,hpt,by decide,zm,zt,fun pa fa=>hR _ _ ?_⟩
      have s9:=same_new (o:=.tup (fq ((Sw.crS ss kk).2+Sw.tmS ss hh))) fa
      have hpa:upd H8 pa (.tup (fq ((Sw.crS ss kk).2+Sw.tmS ss hh))) pa=some (.tup (fq ((Sw.crS ss kk).2+Sw.tmS ss hh))):=upd_same
      have HL:=HL.same s9
      have OL:=OL.same s9
      have FL:=FL.same s9
      have hpm:=s9 _ _ hpm
      have hpt:=s9 _ _ hpt
      have hpp:=s9 _ _ hpp
      have PP:Paired (Pt4 ss (mn (upd H8 pa (.tup (fq ((Sw.crS ss kk).2+Sw.tmS ss hh)))) pl)) pp (List.range kk):=Paired.mapP PP fun _ _ q=>q.same (mn_mono s9)
      have s4:=s4.trans s9
      generalize upd H8 pa (.tup (fq ((Sw.crS ss kk).2+Sw.tmS ss hh)))=H9 at hpa HL OL FL hpm hpt hpp PP s4 ⊢
      clear s9 fa
      refine seq_step fun R hR=>?_
      walk_at "rd"
      refine ⟨tyL_at hpp,?_⟩
      intro tp ftp
      have s10:=same_new (o:=.tup [.ref pm,.ref pa,.ref ol,.ref hl]) ftp
      have htp:upd H9 tp (.tup [.ref pm,.ref pa,.ref ol,.ref hl]) tp=some (.tup [.ref pm,.ref pa,.ref ol,.ref hl]):=upd_same
      have HL:=HL.same s10
      have OL:=OL.same s10
      have FL:=FL.same s10
      have hpm:=s10 _ _ hpm
      have hpa:=s10 _ _ hpa
      have hpt:=s10 _ _ hpt
      have hpp:=s10 _ _ hpp
      have PP:Paired (Pt4 ss (mn (upd H9 tp (.tup [.ref pm,.ref pa,.ref ol,.ref hl])) pl)) pp (List.range kk):=Paired.mapP PP fun _ _ q=>q.same (mn_mono s10)
      have s4:=s4.trans s10
      generalize upd H9 tp (.tup [.ref pm,.ref pa,.ref ol,.ref hl])=H10 at htp hpa HL OL FL hpm hpt hpp PP s4 ⊢
      clear s10 ftp
      have tn:∀ {b xs},H10 b=some (.tup xs)→b≠pl:=fun e=>ne_of e hpp (by intro z; cases z)
      have new:Pt4 ss (mn H10 pl) tp kk:=⟨pm,pa,ol,hl,op,hp,mn_at htp (tn htp),mn_at hpm (tn hpm),mn_at (by rw [hpa,ez]) (tn hpa),by rw [eh]; exact OL.mn hpp nol2,by rw [eh]; exact HL.mn hpp nhl⟩
      have PP2:Paired (Pt4 ss (mn (upd H10 pl (.lst (pp.map V.ref++[.ref tp]))) pl)) (pp++[tp]) (List.range (kk+1)):=by
        rw [mn_upd,List.range_succ]
        exact paired_snoc new PP
      have kl:∀ {b o},b≠pl→H10 b=some o→upd H10 pl (.lst (pp.map V.ref++[.ref tp])) b=some o:=fun n e=>by rw [upd_ne n]; exact e
      have kL:∀ {x:Addr} {xs:List Addr} {qs:List Rat},x≠pl→Lst fq H10 x xs qs→Lst fq (upd H10 pl (.lst (pp.map V.ref++[.ref tp]))) x xs qs:=fun n L=>⟨kl n L.hl,tupsF_keep L.r fun b xs e=>kl (tn e) e⟩
      refine app_at hpp (by rw [List.length_map]; omega) (hR _ _ ?_)
      have PP:=PP2
      have HL:=kL nhl HL
      have FL:=kL nfl FL
      have hpa:=kl (tn hpa) hpa
      have hpt:=kl (tn hpt) hpt
      have hpp2:upd H10 pl (.lst (pp.map V.ref++[.ref tp])) pl=some (.lst ((pp++[tp]).map V.ref)):=by rw [upd_same,List.map_append]; rfl
      have s4:Same H3 (upd H10 pl (.lst (pp.map V.ref++[.ref tp]))):=fun b o e=>kl (ne_of_none e hpl) (s4 _ _ e)
      generalize upd H10 pl (.lst (pp.map V.ref++[.ref tp]))=H11 at PP HL FL hpa hpt hpp2 s4 ⊢
      clear PP2 new kl kL tn htp OL hpm hpp hpp6
      have l1:=tupsF_len HL.r
      have l2:=tupsF_len FL.r
      rw [fr_len] at l1 l2
      refine seq_step fun R hR=>?_
      walk_at "rd"
      simp only [iZip]
      walk_at "rd"
      refine ⟨⟨_,.of HL.hl⟩,⟨_,.of FL.hl⟩,fun nl hnl=>?_⟩
      refine comp_zip (xs:=hp.map V.ref) (ys:=fp.map V.ref) (fun m τ H'=>∃ v0 v1 es,τ = [v0,v1,some (.ref pt)]∧Same H11 H'∧Lst fq H' nl es (fr m (Sw.nxH ss hh))) ⟨none,none,[],rfl,same_new hnl,⟨upd_same,.nil⟩⟩ (by rw [List.length_map,List.length_map]; omega) (fun m τ H' _ ⟨_,_,_,_,s',_⟩=>⟨.of (s' _ _ HL.hl),.of (s' _ _ FL.hl)⟩) ?_ ?_
      · rintro m x y τ H12 p hx hy ⟨v0,v1,es,rfl,s12,L12⟩ hp'
        obtain ⟨px,hpx,rfl⟩:∃ p,hp[m]? = some p∧V.ref p=x:=by simpa using hx
        obtain ⟨py,hpy,rfl⟩:∃ p,fp[m]? = some p∧V.ref p=y:=by simpa using hy
        have hm:m<ss.length:=by have:=(List.getElem?_eq_some_iff.mp hpx).1; omega
        obtain ⟨q,hq,hq2⟩:=tupsF_get HL.r hpx
        rw [fr_get hh hm] at hq
        cases hq
        obtain ⟨q,hq,hq3⟩:=tupsF_get FL.r hpy
        rw [fr_get _ hm] at hq
        cases hq
        have el:=tupsF_len L12.r
        rw [fr_len] at el
        have sn:=same_new (o:=.tup [.ref px,.ref py]) hp'
        have s12:=s12.trans sn
        have L12:=L12.same sn
        refine ⟨p,_,rfl,.of upd_same,rfl,_,_,rfl,_,_,rfl,rfl,?_⟩
        generalize upd H12 p (.tup [.ref px,.ref py])=H13 at s12 L12 ⊢
        clear sn hp'
        simp only [tYes,if_true]
        walk_at "rd"
        refine ⟨py,pt,_,_,1200,rfl,s12 _ _ hq3,s12 _ _ hpt,by decide,(zf m).mono (by decide),zt,fun r1 f1=>?_⟩
        have m1:=same_new (o:=.tup (fq (Sw.falS ss hh m*Sw.tmS ss hh))) f1
        refine ⟨px,r1,_,_,1200,rfl,m1 _ _ (s12 _ _ hq2),upd_same,by decide,zh m,zft m,fun r f2=>?_⟩
        have ef:hh m-Sw.falS ss hh m*Sw.tmS ss hh=Sw.nxH ss hh m:=rfl
        rw [ef]
        have n2:=m1.trans (same_new (o:=.tup (fq (Sw.nxH ss hh m))) f2)
        have hr2:upd (upd H13 r1 (.tup (fq (Sw.falS ss hh m*Sw.tmS ss hh)))) r (.tup (fq (Sw.nxH ss hh m))) r=some (.tup (fq (Sw.nxH ss hh m))):=upd_same
        have L2:=L12.same n2
        have s13:=s12.trans n2
        generalize upd (upd H13 r1 (.tup (fq (Sw.falS ss hh m*Sw.tmS ss hh)))) r (.tup (fq (Sw.nxH ss hh m)))=H14 at hr2 L2 s13 ⊢
        have kt:∀ b xs,H14 b=some (.tup xs)→upd H14 nl (.lst (es.map V.ref++[.ref r])) b=some (.tup xs):=fun b xs e=>by
          rw [upd_ne (ne_of e L2.hl (by intro z; cases z))]; exact e
        refine ⟨_,L2.hl,line_lt (by rw [List.length_map]; omega),fun b o e=>?_,es++[r],?_⟩
        · rw [upd_ne (ne_of_none e hnl)]; exact s13 _ _ e
        · rw [fr_snoc]
          exact ⟨by rw [upd_same,List.map_append]; rfl,tupsF_snoc (kt _ _ hr2) (tupsF_keep L2.r kt)⟩
      rintro τ H12 ⟨v0,v1,np,rfl,s12,NL⟩
      rw [List.length_map,l1] at NL
      refine hR _ _ ?_
      walk_at "rd"
      refine hN _ _ ⟨(Sw.fullS ss (Sw.nxH ss hh)).length,by rw [← em,eh]; exact lt,kk+1,nl,np,pa,pp++[tp],_,_,_,_,rfl,s4.trans s12,by rw [ez]; exact NL,by rw [ez]; exact s12 _ _ hpa,s12 _ _ hpp2,Paired.mapP PP fun _ _ q=>q.same (mn_mono s12),fun j hj=>?_,(fun e=>by rw [e,hpp2] at hnl; cases hnl),by rw [ez]⟩
      by_cases c:j=kk
      · subst c; rw [eh]; exact ne
      · exact go j (by omega)
def spGreatest:Sp:=fun vs H Q _=>∃ l ps qs,vs = [.ref l]∧Lst fq H l ps qs∧(∀ q∈qs,Sw.SzQ 1200 q)∧∀ r H',Same H H'→H' r=some (.tup (fq (qs.foldl max 0)))→Q (.ref r) H'
theorem d_greatest (T:Txt K mg c_Tide):Def P w K mg base (CXX P w) 3 "greatest" ["some"] spGreatest:=by
  have D_ratio:=d_ratio (P:=P) (w:=w) (base:=base) T
  have D_greater:=d_greater (P:=P) (w:=w) (base:=base) T
  refine T.src_greatest.okN (k:=2) sc_greatest (fun vs H Q E h=>?_) (fun f cdv A outer s H vs Q E hr h=>?_)
  · obtain ⟨l,ps,qs,rfl,_⟩:=h
    rfl
  · obtain ⟨l,ps,qs,rfl,L,sz,k⟩:=h
    refine ⟨_,(pss_cons (ps_set (i:=1) sc_greatest.nd rfl (by first|left;rfl|right;rfl) (pe_callX D_ratio (hr.mono (by decide)) rfl passN (pa_cons pe_int (pa_cons pe_int pa_nil)))) (pss_cons (ps_for PassesOwn.never rfl (pi_listK K rfl (pv 0)) (pg_name (i:=2) sc_greatest.nd rfl (by first|left;rfl|right;rfl)) (pss_one (ps_set (i:=1) sc_greatest.nd rfl (by first|left;rfl|right;rfl) (pe_callX D_greater (hr.mono (by decide)) rfl passN (pa_cons (pv 1) (pa_cons (pv 2) pa_nil)))))) (pss_one (ps_ret (pv 1))))),?_⟩
    show tSeq _ _ _ [some (.ref l),none,none] H
    refine seq_step fun R hR=>?_
    walk_at "rd"
    refine ⟨_,_,70,rfl,by decide,Sw.Sz.r18 (by decide) (by decide),fun _ pm fm=>hR _ _ ?_,fun z=>absurd z (by decide)⟩
    rw [f01q]
    refine seq_step fun R hR=>?_
    refine for_step fun Z hZ=>?_
    walk_at "rd"
    have n1:=same_new (o:=.tup (fq 0)) fm
    have z0:Sw.SzQ 1200 0:=(Sw.SzQ.int (n:=0) (z:=4) (Sw.Sz.zero _)).mono (by decide)
    refine ⟨⟨_,.of (n1 _ _ L.hl)⟩,hZ _ _ ?_⟩
    refine for_list (K:=K) (a:=l) (xs:=ps.map V.ref) (fun i σ H'=>Same H H'∧∃ x v,σ = [some (.ref l),some (.ref x),v]∧H' x=some (.tup (fq ((qs.take i).foldl max 0)))∧Sw.SzQ 1200 ((qs.take i).foldl max 0)) ⟨n1,pm,none,rfl,upd_same,z0⟩ (fun i σ H' _ q=>.of (q.1 _ _ L.hl)) ?_ ?_
    · rintro i v σ H1 hv ⟨sm,x,v2,rfl,hx,zx⟩
      obtain ⟨p,hp,rfl⟩:∃ p,ps[i]? = some p∧V.ref p=v:=by simpa using hv
      obtain ⟨q,hq,hp2⟩:=tupsF_get L.r hp
      have zq:=sz q (List.mem_of_getElem? hq)
      show tAsg _ _ _ [some (.ref l),some (.ref x),some (.ref p)] H1
      refine nx_step fun R' hR'=>?_
      walk_at "rd"
      refine ⟨x,p,_,q,rfl,hx,sm _ _ hp2,zx.mono (by decide),zq.mono (by decide),fun r hr'=>hR' _ _ ?_⟩
      have e:(qs.take (i+1)).foldl max 0=max ((qs.take i).foldl max 0) q:=by rw [take_succ_of hq,List.foldl_append]; rfl
      refine ⟨sm.trans (same_new hr'),r,_,rfl,?_,?_⟩
      · rw [upd_same,e]
      · rw [e,Rat.max_def]; split
        · exact zq
        · exact zx
    · rintro σ H1 ⟨sm,x,v2,rfl,hx,_⟩
      refine hR _ _ ?_
      walk_at "rd"
      have ln:=tupsF_len L.r
      rw [List.take_of_length_le (by rw [List.length_map,ln]; exact Nat.le_refl _)] at hx
      exact k x H1 sm hx
def spPiles:Sp:=fun vs H Q _=>∃ l ps ss L,vs = [.ref l]∧SnL H l ps ss∧Sw.Plan ss L∧∀ cl cp m H',Same H H'→H cl=none→Lst fq H' cl cp (fr ss.length (pilS ss m))→EndS ss m→Q (.ref cl) H'
theorem d_piles (T:Txt K mg c_Tide):Def P w K mg base (CXX P w) 7 "piles" ["senders"] spPiles:=by
  have D_course:=d_course (P:=P) (w:=w) (base:=base) T
  have D_greatest:=d_greatest (P:=P) (w:=w) (base:=base) T
  refine T.src_piles.okN (k:=6) sc_piles (fun vs H Q E h=>?_) (fun f cdv A outer s H vs Q E hr h=>?_)
  · obtain ⟨l,ps,ss,L,rfl,_⟩:=h
    rfl
  · obtain ⟨l,ps,ss,L,rfl,SL,PL,k⟩:=h
    refine ⟨_,(pss_cons (ps_set (i:=1) sc_piles.nd rfl (by first|left;rfl|right;rfl) (pe_callX D_course (hr.mono (by decide)) rfl passN (pa_cons (pv 0) pa_nil))) (pss_one (ps_ret (pe_lcC "number" ["number"] [("parts", 1)] rfl (by with_unfolding_all rfl) (fun _=>by with_unfolding_all rfl) (fun _=>by with_unfolding_all rfl) rfl (by decide +kernel) (by exact ⟨rfl,True.intro⟩) (by with_unfolding_all rfl) ⟨⟨rfl,rfl,rfl⟩,True.intro⟩ (by decide +kernel) (pi_range1 rfl T.no_range (pa_cons (pe_callB (call_lenK K rfl) rfl T.no_len boot_len (pa_cons (pv 0) pa_nil)) pa_nil)) (fun _ _ _=>(pg_name (i:=0) (show (["number", "parts"]:List Str).Nodup from by decide +kernel) rfl (by first|left;rfl|right;rfl) (Or.inl (show (("number" : Str) == ("number" : Str))=true from by decide +kernel)))) (fun _ _ _=>pifs_nil) (fun _ _ _=>(pe_callX D_greatest (hr.mono (by decide)) rfl passN (pa_cons (pe_lc ["part"] [("number", 0)] rfl (by with_unfolding_all rfl) (by decide +kernel) rfl (by decide +kernel) (by exact ⟨rfl,True.intro⟩) (by with_unfolding_all rfl) ⟨⟨rfl,rfl,rfl⟩,True.intro⟩ (pi_listK K rfl (pv 1)) (fun _ _ _=>(pg_name (i:=0) (show (["part", "number"]:List Str).Nodup from by decide +kernel) rfl (by first|left;rfl|right;rfl))) (fun _ _ _=>pifs_nil) (fun _ _ _=>(pe_ix (ix_listK K rfl) (pe_ix (ix_tupK K rfl) (pv 0) pe_int (fun _ _=>rfl)) (pv 1) (fun _ _=>rfl)))) pa_nil))))))),?_⟩
    show tSeq _ _ _ [some (.ref l),none] H
    have n8:=PL.n8
    have len:=SL.len
    refine seq_step fun R hR=>?_
    walk_at "rd"
    refine ⟨l,ps,ss,L,rfl,SL,PL,fun cl cp m H1 s1 ncl CL en=>hR _ _ ?_⟩
    have le:=en.le
    have cpl:=Paired.length CL.r
    rw [List.length_range] at cpl
    have SL1:=SL.same s1
    walk_at "rd"
    refine len_at (.of SL1.hl) ?_
    walk_at "rd"
    rw [List.length_map]
    refine ⟨by omega,by omega,fun Dl hDl=>?_⟩
    rw [Int.toNat_natCast]
    refine comp_range (fun i τ H'=>∃ v0 es,τ = [v0,some (.ref cl)]∧Same H1 H'∧Lst fq H' Dl es (fr i (pilS ss m))) ⟨none,[],rfl,same_new hDl,⟨upd_same,.nil⟩⟩ ?_ ?_
    · rintro i τ H2 hi ⟨v0,es,rfl,s2,L2⟩
      rw [Int.zero_add]
      have esl:=tupsF_len L2.r
      rw [fr_len] at esl
      walk_at "rd"
      simp only [tYes,if_true]
      walk_at "rd"
      have hi2:i<ss.length:=by omega
      refine ⟨⟨_,.of (s2 _ _ CL.hl)⟩,fun El hEl=>?_⟩
      refine comp_walk (xs:=cp.map V.ref) (fun j τ H'=>∃ v fs,τ = [v,some (.int (i:Int))]∧Same H2 H'∧Lst fq H' El fs ((List.range j).map fun k=>(Sw.crS ss k).1 i)) ⟨none,[],rfl,same_new hEl,⟨upd_same,.nil⟩⟩ (fun j τ H' _ ⟨_,_,_,s',_⟩=>.of (s' _ _ (s2 _ _ CL.hl))) ?_ ?_
      · rintro j y τ H3 hy ⟨v,fs,rfl,s3,L3⟩
        obtain ⟨p,hp,rfl⟩:∃ p,cp[j]? = some p∧V.ref p=y:=by simpa using hy
        have hj:j<m:=by have:=(List.getElem?_eq_some_iff.mp hp).1; omega
        obtain ⟨kk,hk,q4⟩:=paired_get CL.r hp
        rw [List.getElem?_range hj] at hk
        cases hk
        obtain ⟨pm,pa,po,ph,os,hs,h1,h2,h3,h4,h5⟩:=q4.same (s2.trans s3)
        obtain ⟨q,_,xq,hq⟩:=lst_item h5 hi2
        have fl:=tupsF_len L3.r
        rw [List.length_map,List.length_range] at fl
        walk_at "rd"
        simp only [tYes,if_true]
        walk_at "rd"
        refine ixT_at (.of h1) rfl ?_
        refine ixL_at (.of h5.hl) xq ?_
        have kt:∀ b xs,H3 b=some (.tup xs)→upd H3 El (.lst (fs.map V.ref++[.ref q])) b=some (.tup xs):=fun b xs e=>by
          rw [upd_ne (ne_of e L3.hl (by intro z; cases z))]; exact e
        refine ⟨_,L3.hl,line_lt (by rw [List.length_map]; omega),fun b o e=>?_,fs++[q],?_⟩
        · rw [upd_ne (ne_of_none e hEl)]; exact s3 _ _ e
        · rw [List.range_succ,List.map_append]
          exact ⟨by rw [upd_same,List.map_append]; rfl,tupsF_snoc (kt _ _ hq) (tupsF_keep L3.r kt)⟩
      rintro τ H3 ⟨v,fs,rfl,s3,L3⟩
      rw [List.length_map,cpl] at L3
      refine ⟨El,fs,_,rfl,L3,fun q hq=>?_,fun r H4 s4 hr4=>?_⟩
      · obtain ⟨kk,hk,rfl⟩:=List.mem_map.mp hq
        exact (Sw.EndSz PL en (by have:=List.mem_range.mp hk; omega)).2.1 i
      have s4:=s3.trans s4
      have L4:=L2.same s4
      have kt:∀ b xs,H4 b=some (.tup xs)→upd H4 Dl (.lst (es.map V.ref++[.ref r])) b=some (.tup xs):=fun b xs e=>by
        rw [upd_ne (ne_of e L4.hl (by intro z; cases z))]; exact e
      refine ⟨_,L4.hl,line_lt (by rw [List.length_map]; omega),fun b o e=>?_,es++[r],?_⟩
      · rw [upd_ne (ne_of_none e hDl)]; exact s4 _ _ (s2 _ _ e)
      · rw [fr_snoc]
        exact ⟨by rw [upd_same,List.map_append]; rfl,tupsF_snoc (kt _ _ hr4) (tupsF_keep L4.r kt)⟩
    rintro τ H2 ⟨v0,es,rfl,s2,L2⟩
    rw [len] at L2
    exact k Dl es m H2 (s1.trans s2) (s1.free hDl) L2 en
def spTurns:Sp:=fun vs H Q _=>∃ cl cp i pl pr ss L m,vs = [.ref cl,.int (i:Nat),.ref pl]∧PtL ss H cl cp m∧H pl=some (.tup [.int (Sw.buS ss i),.ref pr])∧H pr=some (.tup (fq (Sw.rtS ss i)))∧Sw.Plan ss L∧EndS ss m∧i<ss.length∧∀ fl fp H',Same H H'→H fl=none→Lst fq H' fl fp (Sw.wtS ss i m)→Q (.ref fl) H'
theorem d_waits_at_turns (T:Txt K mg c_Tide):Def P w K mg base (CXX P w) 4 "waits_at_turns" ["parts", "number", "line"] spTurns:=by
  have D_ratio:=d_ratio (P:=P) (w:=w) (base:=base) T
  have D_plus:=d_plus (P:=P) (w:=w) (base:=base) T
  have D_minus:=d_minus (P:=P) (w:=w) (base:=base) T
  have D_times:=d_times (P:=P) (w:=w) (base:=base) T
  have D_over:=d_over (P:=P) (w:=w) (base:=base) T
  have D_under:=d_under (P:=P) (w:=w) (base:=base) T
  refine T.src_waits_at_turns.okN (k:=3) sc_waits_at_turns (fun vs H Q E h=>?_) (fun f cdv A outer s H vs Q E hr h=>?_)
  · obtain ⟨cl,cp,i,pl,pr,ss,L,m,rfl,_⟩:=h
    rfl
  · obtain ⟨cl,cp,i,pl,pr,ss,L,m,rfl,CL,h2,h3,PL,en,hi,k⟩:=h
    refine ⟨_,(pss_cons (ps_set (i:=3) sc_waits_at_turns.nd rfl (by first|left;rfl|right;rfl) (pe_tup (pa_cons (pe_ix (ix_tupK K rfl) (pv 2) pe_int (fun _ _=>rfl)) (pa_cons pe_int pa_nil)))) (pss_cons (ps_set (i:=4) sc_waits_at_turns.nd rfl (by first|left;rfl|right;rfl) (pe_callX D_ratio (hr.mono (by decide)) rfl passN (pa_cons pe_int (pa_cons pe_int pa_nil)))) (pss_cons (ps_set (i:=5) sc_waits_at_turns.nd rfl (by first|left;rfl|right;rfl) (pe_lst pa_nil)) (pss_cons (ps_for PassesOwn.never rfl (pi_listK K rfl (pv 0)) (pg_tupK (n:=4) K rfl rfl (pgs_cons (pg_name (i:=6) sc_waits_at_turns.nd rfl (by first|left;rfl|right;rfl)) (pgs_cons (pg_name (i:=7) sc_waits_at_turns.nd rfl (by first|left;rfl|right;rfl)) (pgs_cons (pg_name (i:=8) sc_waits_at_turns.nd rfl (by first|left;rfl|right;rfl)) (pgs_cons (pg_name (i:=9) sc_waits_at_turns.nd rfl (by first|left;rfl|right;rfl)) pgs_nil))))) (pss_cons (ps_set (i:=10) sc_waits_at_turns.nd rfl (by first|left;rfl|right;rfl) (pv 4)) (pss_cons (ps_set (i:=4) sc_waits_at_turns.nd rfl (by first|left;rfl|right;rfl) (pe_callX D_plus (hr.mono (by decide)) rfl passN (pa_cons (pv 10) (pa_cons (pe_callX D_times (hr.mono (by decide)) rfl passN (pa_cons (pe_ix (ix_listK K rfl) (pv 8) (pv 1) (fun _ _=>rfl)) (pa_cons (pe_callX D_minus (hr.mono (by decide)) rfl passN (pa_cons (pv 7) (pa_cons (pv 6) pa_nil))) pa_nil))) pa_nil)))) (pss_cons (ps_if (pt_val (pe_callX D_under (hr.mono (by decide)) rfl passN (pa_cons (pv 4) (pa_cons (pv 3) pa_nil)))) (pss_one ps_continue) pss_nil) (pss_cons (ps_if (pt_val (pe_callX D_under (hr.mono (by decide)) rfl passN (pa_cons (pv 10) (pa_cons (pv 3) pa_nil)))) (pss_one (ps_expr (pe_bm PySem.F.plainAttrs_list PySem.F.slot_list_append PySem.F.type_list_append mt_append (pv 5) (pa_cons (pe_callX D_plus (hr.mono (by decide)) rfl passN (pa_cons (pv 6) (pa_cons (pe_callX D_over (hr.mono (by decide)) rfl passN (pa_cons (pe_callX D_minus (hr.mono (by decide)) rfl passN (pa_cons (pv 3) (pa_cons (pv 10) pa_nil))) (pa_cons (pe_ix (ix_listK K rfl) (pv 8) (pv 1) (fun _ _=>rfl)) pa_nil))) pa_nil))) pa_nil)))) pss_nil) (pss_one (ps_if (pt_val (pe_callX D_under (hr.mono (by decide)) rfl passN (pa_cons (pe_tup (pa_cons pe_int (pa_cons pe_int pa_nil))) (pa_cons (pe_ix (ix_tupK K rfl) (pv 2) pe_int (fun _ _=>rfl)) pa_nil)))) (pss_one (ps_expr (pe_bm PySem.F.plainAttrs_list PySem.F.slot_list_append PySem.F.type_list_append mt_append (pv 5) (pa_cons (pe_callX D_minus (hr.mono (by decide)) rfl passN (pa_cons (pv 7) (pa_cons (pe_callX D_over (hr.mono (by decide)) rfl passN (pa_cons (pe_callX D_minus (hr.mono (by decide)) rfl passN (pa_cons (pv 4) (pa_cons (pv 3) pa_nil))) (pa_cons (pe_ix (ix_tupK K rfl) (pv 2) pe_int (fun _ _=>rfl)) pa_nil))) pa_nil))) pa_nil)))) pss_nil))))))) (pss_one (ps_ret (pv 5))))))),?_⟩
    show tSeq _ _ _ [some (.ref cl),some (.int (i:Nat)),some (.ref pl),none,none,none,none,none,none,none,none] H
    have n8:=PL.n8
    have le:=en.le
    have cpl:=Paired.length CL.r
    rw [List.length_range] at cpl
    have zr:=Sw.rt_sz PL i
    have zu:Sw.SzQ 70 (Sw.buS ss i:Rat):=by
      obtain ⟨s0,hs0,_,e0,_⟩:=Sw.at_mem hi
      have:=PL.b1 s0 hs0
      exact Sw.SzQ.int (z:=69) (Sw.Sz.r18 (by omega) (by omega))
    refine seq_step fun R hR=>?_
    walk_at "rd"
    refine ixT_at (.of h2) rfl ?_
    walk_at "rd"
    intro pb fb
    refine hR _ _ ?_
    have n1:=same_new (o:=.tup [.int (Sw.buS ss i),.int 1]) fb
    have hb:upd H pb (.tup [.int (Sw.buS ss i),.int 1]) pb=some (.tup (fq (Sw.buS ss i:Rat))):=at_int (n:=Sw.buS ss i)
    generalize upd H pb (.tup [.int (Sw.buS ss i),.int 1])=H1 at n1 hb ⊢
    refine seq_step fun R hR=>?_
    walk_at "rd"
    refine ⟨_,_,70,rfl,by decide,Sw.Sz.r18 (by decide) (by decide),fun _ pg fg=>hR _ _ ?_,fun z=>absurd z (by decide)⟩
    rw [f01q]
    have n2:=same_new (o:=.tup (fq 0)) fg
    have hg:upd H1 pg (.tup (fq 0)) pg=some (.tup (fq (Sw.gnS ss i 0))):=upd_same
    have hb:=n2 _ _ hb
    have sm:=n1.trans n2
    generalize upd H1 pg (.tup (fq 0))=H2 at hg hb sm ⊢
    clear n1 n2 fb fg
    refine seq_step fun R hR=>?_
    walk_at "rd"
    intro fl hfl
    refine hR _ _ ?_
    have nfl:H fl=none:=sm.free hfl
    have n3:=same_new (o:=.lst []) hfl
    have FL:Lst fq (upd H2 fl (.lst [])) fl [] (Sw.wtS ss i 0):=⟨upd_same,.nil⟩
    have hg:=n3 _ _ hg
    have hb:=n3 _ _ hb
    have sm:=sm.trans n3
    generalize upd H2 fl (.lst [])=H3 at FL hg hb sm ⊢
    clear n3 hfl
    refine seq_step fun R hR=>?_
    refine for_step fun Z hZ=>?_
    walk_at "rd"
    refine ⟨⟨_,.of (sm _ _ CL.hl)⟩,hZ _ _ ?_⟩
    refine for_list (K:=K) (a:=cl) (xs:=cp.map V.ref) (fun j σ H'=>∃ pg fp v6 v7 v8 v9 v10,σ = [some (.ref cl),some (.int (i:Nat)),some (.ref pl),some (.ref pb),some (.ref pg),some (.ref fl),v6,v7,v8,v9,v10]∧Same H H'∧H' pb=some (.tup (fq (Sw.buS ss i:Rat)))∧H' pg=some (.tup (fq (Sw.gnS ss i j)))∧Lst fq H' fl fp (Sw.wtS ss i j)∧fp.length≤2*j) ⟨pg,[],none,none,none,none,none,rfl,sm,hb,hg,FL,Nat.zero_le _⟩ (fun j σ H' _ ⟨_,_,_,_,_,_,_,_,sm,_⟩=>.of (sm _ _ CL.hl)) ?_ ?_
    · rintro j y σ H4 hy ⟨pg,fp,v6,v7,v8,v9,v10,rfl,sm,hb,hg,FL,fle⟩
      obtain ⟨p,hp,rfl⟩:∃ p,cp[j]? = some p∧V.ref p=y:=by simpa using hy
      have hj:j<m:=by have:=(List.getElem?_eq_some_iff.mp hp).1; omega
      obtain ⟨kk,hk,q4⟩:=paired_get CL.r hp
      rw [List.getElem?_range hj] at hk
      cases hk
      obtain ⟨pm,pa,po,ph,os,hs,g1,g2,g3,g4,g5⟩:=q4.same sm
      obtain ⟨pz,_,zm⟩:=Sw.EndSz PL en (show j≤m by omega)
      obtain ⟨_,_,zm'⟩:=Sw.EndSz PL en (show j+1≤m by omega)
      have ne:=en.go j hj
      obtain ⟨_,zt⟩:=Sw.tm_sz PL ne pz (by omega)
      have zo:=Sw.out_sz PL ne i
      have zg:=Sw.gn_sz PL en hi (show j≤m by omega)
      have zg':=Sw.gn_sz PL en hi (show j+1≤m by omega)
      obtain ⟨px,_,xx,hx⟩:=lst_item g4 hi
      have et:(Sw.crS ss (j+1)).2-(Sw.crS ss j).2=Sw.tmS ss (Sw.crS ss j).1:=by
        show (Sw.crS ss j).2+Sw.tmS ss (Sw.crS ss j).1-(Sw.crS ss j).2 = _
        grind
      have eg:Sw.gnS ss i j+Sw.outS ss (Sw.crS ss j).1 i*((Sw.crS ss (j+1)).2-(Sw.crS ss j).2)=Sw.gnS ss i (j+1):=rfl
      have ew:Sw.wtS ss i (j+1)=Sw.wtS ss i j++(if Sw.gnS ss i (j+1)<(Sw.buS ss i:Rat) then [] else (if Sw.gnS ss i j<(Sw.buS ss i:Rat) then [Sw.w1S ss i j] else [])++(if 0<Sw.rtS ss i then [Sw.w2S ss i j] else [])):=rfl
      refine ⟨p,_,rfl,.of g1,rfl,_,_,rfl,_,_,rfl,_,_,rfl,_,_,rfl,rfl,?_⟩
      show tSeq _ _ _ [some (.ref cl),some (.int (i:Nat)),some (.ref pl),some (.ref pb),some (.ref pg),some (.ref fl),some (.ref pm),some (.ref pa),some (.ref po),some (.ref ph),v10] H4
      refine seq_step fun R hR=>?_
      walk_at "rd"
      refine hR _ _ ?_
      refine seq_step fun R hR=>?_
      walk_at "rd"
      refine ixL_at (.of g4.hl) xx ?_
      refine ⟨pa,pm,_,_,1200,rfl,g3,g2,by decide,zm',zm,fun r1 f1=>?_⟩
      have m1:=same_new (o:=.tup (fq ((Sw.crS ss (j+1)).2-(Sw.crS ss j).2))) f1
      refine ⟨px,r1,_,_,1200,rfl,m1 _ _ hx,upd_same,by decide,zo.mono (by decide),by rw [et]; exact zt,fun r2 f2=>?_⟩
      have m2:=m1.trans (same_new (o:=.tup (fq (Sw.outS ss (Sw.crS ss j).1 i*((Sw.crS ss (j+1)).2-(Sw.crS ss j).2)))) f2)
      have zx:Sw.SzQ 1400 (Sw.outS ss (Sw.crS ss j).1 i*((Sw.crS ss (j+1)).2-(Sw.crS ss j).2)):=by
        rw [et]; exact zo.mul zt
      refine ⟨pg,r2,_,_,1400,rfl,m2 _ _ hg,upd_same,by decide,zg.mono (by decide),zx,fun pg' f3=>hR _ _ ?_⟩
      rw [eg]
      have m3:=m2.trans (same_new (o:=.tup (fq (Sw.gnS ss i (j+1)))) f3)
      have hg':upd (upd (upd H4 r1 (.tup (fq ((Sw.crS ss (j+1)).2-(Sw.crS ss j).2)))) r2 (.tup (fq (Sw.outS ss (Sw.crS ss j).1 i*((Sw.crS ss (j+1)).2-(Sw.crS ss j).2))))) pg' (.tup (fq (Sw.gnS ss i (j+1)))) pg'=some (.tup (fq (Sw.gnS ss i (j+1)))):=upd_same
      generalize upd (upd (upd H4 r1 (.tup (fq ((Sw.crS ss (j+1)).2-(Sw.crS ss j).2)))) r2 (.tup (fq (Sw.outS ss (Sw.crS ss j).1 i*((Sw.crS ss (j+1)).2-(Sw.crS ss j).2))))) pg' (.tup (fq (Sw.gnS ss i (j+1))))=H5 at m3 hg' ⊢
      clear m1 m2 f1 f2 f3
      have sm:=sm.trans m3
      have hb:=m3 _ _ hb
      have hg:=m3 _ _ hg
      have FL:=FL.same m3
      have g2:=m3 _ _ g2
      have g3:=m3 _ _ g3
      have g4:=g4.same m3
      have hx:=m3 _ _ hx
      clear m3
      refine seq_step fun R hR=>?_
      walk_at "rd"
      refine ⟨pg',pb,_,_,rfl,hg',hb,zg'.mono (by decide),zu.mono (by decide),?_⟩
      walk_at "rd"
      refine ite2 (fun c=>?_) fun c=>?_
      · rw [if_pos c,List.append_nil] at ew
        exact ⟨pg',⟨_,_,_,_,_,rfl⟩,sm,hb,hg',fp,by rw [ew]; exact FL,by omega⟩
      refine hR _ _ ?_
      rw [if_neg c] at ew
      have app:∀ {H6:Hp} {fs:List Addr} {qs:List Rat} {r:Addr} {x:Rat},Lst fq H6 fl fs qs→H6 r=some (.tup (fq x))→Lst fq (upd H6 fl (.lst (fs.map V.ref++[.ref r]))) fl (fs++[r]) (qs++[x]):=fun {H6 fs qs r x} L hr=>by
        have kt:∀ b xs,H6 b=some (.tup xs)→upd H6 fl (.lst (fs.map V.ref++[.ref r])) b=some (.tup xs):=fun b xs e=>by
          rw [upd_ne (ne_of e L.hl (by intro z; cases z))]; exact e
        exact ⟨by rw [upd_same,List.map_append]; rfl,tupsF_snoc (kt _ _ hr) (tupsF_keep L.r kt)⟩
      refine seq_step fun R hR=>?_
      have next:∀ (H6:Hp) (fs:List Addr),Same H H6→H6 pb=some (.tup (fq (Sw.buS ss i:Rat)))→H6 pg'=some (.tup (fq (Sw.gnS ss i (j+1))))→H6 pa=some (.tup (fq (Sw.crS ss (j+1)).2))→Lst fq H6 fl fs (Sw.wtS ss i j++(if Sw.gnS ss i j<(Sw.buS ss i:Rat) then [Sw.w1S ss i j] else []))→fs.length≤2*j+1→R [some (.ref cl),some (.int (i:Nat)),some (.ref pl),some (.ref pb),some (.ref pg'),some (.ref fl),some (.ref pm),some (.ref pa),some (.ref po),some (.ref ph),some (.ref pg)] H6:=by
        intro H6 fs sm hb hg' g3 FL fle
        refine hR _ _ ?_
        refine nx_step fun N hN=>?_
        walk_at "rd"
        intro p0 f0
        have n0:=same_new (o:=.tup [.int 0,.int 1]) f0
        refine ixT_at (.of (n0 _ _ (sm _ _ h2))) rfl ?_
        refine ⟨p0,pr,((0:Int):Rat),_,rfl,at_int (n:=0),n0 _ _ (sm _ _ h3),(Sw.SzQ.int (n:=0) (z:=4) (Sw.Sz.zero _)).mono (by decide),zr.mono (by decide),?_⟩
        have sm:=sm.trans n0
        have hb:=n0 _ _ hb
        have hg':=n0 _ _ hg'
        have g3:=n0 _ _ g3
        have FL:=FL.same n0
        generalize upd H6 p0 (.tup [.int 0,.int 1])=H7 at sm hb hg' g3 FL ⊢
        clear n0 f0
        have e0:decide (((0:Int):Rat)<Sw.rtS ss i)=decide (0<Sw.rtS ss i):=rfl
        rw [e0]
        walk_at "rd"
        refine ite2 (fun d=>?_) fun d=>?_
        · rw [if_pos d,← List.append_assoc] at ew
          walk_at "rd"
          refine ⟨tyL_at FL.hl,?_⟩
          refine ⟨pg',pb,_,_,1200,rfl,hg',hb,by decide,zg',zu.mono (by decide),fun r1 f1=>?_⟩
          have m1:=same_new (o:=.tup (fq (Sw.gnS ss i (j+1)-(Sw.buS ss i:Rat)))) f1
          refine ixT_at (.of (m1 _ _ (sm _ _ h2))) rfl ?_
          have z1:Sw.SzQ 1271 (Sw.gnS ss i (j+1)-(Sw.buS ss i:Rat)):=zg'.sub zu
          have rn:Sw.rtS ss i≠0:=by grind
          refine ⟨r1,pr,_,_,1300,rfl,upd_same,m1 _ _ (sm _ _ h3),by decide,z1.mono (by decide),zr.mono (by decide),rn,fun r2 f2=>?_⟩
          have m2:=m1.trans (same_new (o:=.tup (fq ((Sw.gnS ss i (j+1)-(Sw.buS ss i:Rat)) / Sw.rtS ss i))) f2)
          refine ⟨pa,r2,_,_,1500,rfl,m2 _ _ g3,upd_same,by decide,zm'.mono (by decide),(z1.div (Sw.q_num_ne rn) zr).mono (by decide),fun r3 f3=>?_⟩
          have e2:(Sw.crS ss (j+1)).2-(Sw.gnS ss i (j+1)-(Sw.buS ss i:Rat)) / Sw.rtS ss i=Sw.w2S ss i j:=rfl
          rw [e2]
          have m3:=m2.trans (same_new (o:=.tup (fq (Sw.w2S ss i j))) f3)
          have hr3:upd (upd (upd H7 r1 (.tup (fq (Sw.gnS ss i (j+1)-(Sw.buS ss i:Rat))))) r2 (.tup (fq ((Sw.gnS ss i (j+1)-(Sw.buS ss i:Rat)) / Sw.rtS ss i)))) r3 (.tup (fq (Sw.w2S ss i j))) r3=some (.tup (fq (Sw.w2S ss i j))):=upd_same
          generalize upd (upd (upd H7 r1 (.tup (fq (Sw.gnS ss i (j+1)-(Sw.buS ss i:Rat))))) r2 (.tup (fq ((Sw.gnS ss i (j+1)-(Sw.buS ss i:Rat)) / Sw.rtS ss i)))) r3 (.tup (fq (Sw.w2S ss i j)))=H8 at m3 hr3 ⊢
          have FL:=FL.same m3
          have A:=app FL hr3
          have tn:∀ {b xs},H8 b=some (.tup xs)→b≠fl:=fun e=>ne_of e FL.hl (by intro z; cases z)
          refine app_at FL.hl (by rw [List.length_map]; omega) (hN _ _ ⟨pg',fs++[r3],_,_,_,_,_,rfl,fun b o e=>?_,?_,?_,by rw [ew]; exact A,by rw [List.length_append]; show fs.length+1≤_; omega⟩)
          · rw [upd_ne (ne_of_none e nfl)]; exact m3 _ _ (sm _ _ e)
          · rw [upd_ne (tn (m3 _ _ hb))]; exact m3 _ _ hb
          · rw [upd_ne (tn (m3 _ _ hg'))]; exact m3 _ _ hg'
        · rw [if_neg d,List.append_nil] at ew
          exact hN _ _ ⟨pg',fs,_,_,_,_,_,rfl,sm,hb,hg',by rw [ew]; exact FL,by omega⟩
      walk_at "rd"
      refine ⟨pg,pb,_,_,rfl,hg,hb,zg.mono (by decide),zu.mono (by decide),?_⟩
      walk_at "rd"
      refine ite2 (fun d=>?_) fun d=>?_
      · walk_at "rd"
        refine ⟨tyL_at FL.hl,?_⟩
        obtain ⟨o1,_,_,_⟩:=Sw.tau_ok PL en hj d (by grind)
        have on:Sw.outS ss (Sw.crS ss j).1 i≠0:=by grind
        refine ⟨pb,pg,_,_,1200,rfl,hb,hg,by decide,zu.mono (by decide),zg,fun r1 f1=>?_⟩
        have m1:=same_new (o:=.tup (fq ((Sw.buS ss i:Rat)-Sw.gnS ss i j))) f1
        refine ixL_at (.of (g4.same m1).hl) xx ?_
        have z1:Sw.SzQ 1271 ((Sw.buS ss i:Rat)-Sw.gnS ss i j):=(zu.sub zg).mono (by decide)
        refine ⟨r1,px,_,_,1300,rfl,upd_same,m1 _ _ hx,by decide,z1.mono (by decide),zo.mono (by decide),on,fun r2 f2=>?_⟩
        have m2:=m1.trans (same_new (o:=.tup (fq (((Sw.buS ss i:Rat)-Sw.gnS ss i j) / Sw.outS ss (Sw.crS ss j).1 i))) f2)
        refine ⟨pm,r2,_,_,1500,rfl,m2 _ _ g2,upd_same,by decide,zm.mono (by decide),(z1.div (Sw.q_num_ne on) zo).mono (by decide),fun r3 f3=>?_⟩
        have e2:(Sw.crS ss j).2+((Sw.buS ss i:Rat)-Sw.gnS ss i j) / Sw.outS ss (Sw.crS ss j).1 i=Sw.w1S ss i j:=rfl
        rw [e2]
        have m3:=m2.trans (same_new (o:=.tup (fq (Sw.w1S ss i j))) f3)
        have hr3:upd (upd (upd H5 r1 (.tup (fq ((Sw.buS ss i:Rat)-Sw.gnS ss i j)))) r2 (.tup (fq (((Sw.buS ss i:Rat)-Sw.gnS ss i j) / Sw.outS ss (Sw.crS ss j).1 i)))) r3 (.tup (fq (Sw.w1S ss i j))) r3=some (.tup (fq (Sw.w1S ss i j))):=upd_same
        generalize upd (upd (upd H5 r1 (.tup (fq ((Sw.buS ss i:Rat)-Sw.gnS ss i j)))) r2 (.tup (fq (((Sw.buS ss i:Rat)-Sw.gnS ss i j) / Sw.outS ss (Sw.crS ss j).1 i)))) r3 (.tup (fq (Sw.w1S ss i j)))=H8 at m3 hr3 ⊢
        have FL:=FL.same m3
        have A:=app FL hr3
        have tn:∀ {b xs},H8 b=some (.tup xs)→b≠fl:=fun e=>ne_of e FL.hl (by intro z; cases z)
        refine app_at FL.hl (by rw [List.length_map]; omega) (next _ (fp++[r3]) (fun b o e=>?_) ?_ ?_ ?_ (by rw [if_pos d]; exact A) (by rw [List.length_append]; show fp.length+1≤_; omega))
        · rw [upd_ne (ne_of_none e nfl)]; exact m3 _ _ (sm _ _ e)
        · rw [upd_ne (tn (m3 _ _ hb))]; exact m3 _ _ hb
        · rw [upd_ne (tn (m3 _ _ hg'))]; exact m3 _ _ hg'
        · rw [upd_ne (tn (m3 _ _ g3))]; exact m3 _ _ g3
      · refine next H5 fp sm hb hg' g3 ?_ (by omega)
        rw [if_neg d,List.append_nil]
        exact FL
    · rintro σ H4 ⟨pg,fp,v6,v7,v8,v9,v10,rfl,sm,hb,hg,FL,fle⟩
      refine hR _ _ ?_
      walk_at "rd"
      rw [List.length_map,cpl] at FL
      exact k fl fp H4 sm nfl FL
def spWaits:Sp:=fun vs H Q _=>∃ l ps ss L,vs = [.ref l]∧SnL H l ps ss∧Sw.Plan ss L∧∀ cl cp m H',Same H H'→H cl=none→Lst fq H' cl cp (fr ss.length (Sw.waS ss m))→EndS ss m→Q (.ref cl) H'
theorem d_waits (T:Txt K mg c_Tide):Def P w K mg base (CXX P w) 7 "waits" ["senders"] spWaits:=by
  have D_course:=d_course (P:=P) (w:=w) (base:=base) T
  have D_greatest:=d_greatest (P:=P) (w:=w) (base:=base) T
  have D_waits_at_turns:=d_waits_at_turns (P:=P) (w:=w) (base:=base) T
  refine T.src_waits.okN (k:=6) sc_waits (fun vs H Q E h=>?_) (fun f cdv A outer s H vs Q E hr h=>?_)
  · obtain ⟨l,ps,ss,L,rfl,_⟩:=h
    rfl
  · obtain ⟨l,ps,ss,L,rfl,SL,PL,k⟩:=h
    refine ⟨_,(pss_cons (ps_set (i:=1) sc_waits.nd rfl (by first|left;rfl|right;rfl) (pe_callX D_course (hr.mono (by decide)) rfl passN (pa_cons (pv 0) pa_nil))) (pss_one (ps_ret (pe_lc ["number", "sender"] [("parts", 1)] rfl (by with_unfolding_all rfl) (by decide +kernel) rfl (by decide +kernel) (by exact ⟨rfl,True.intro⟩) (by with_unfolding_all rfl) ⟨⟨rfl,rfl,rfl⟩,True.intro⟩ (pi_enumK K rfl rfl T.no_enumerate (pa_cons (pv 0) pa_nil)) (fun _ _ _=>(pg_tupK (n:=2) K rfl rfl (pgs_cons (pg_name (i:=0) (show (["number", "sender", "parts"]:List Str).Nodup from by decide +kernel) rfl (by first|left;rfl|right;rfl)) (pgs_cons (pg_name (i:=1) (show (["number", "sender", "parts"]:List Str).Nodup from by decide +kernel) rfl (by first|left;rfl|right;rfl)) pgs_nil)))) (fun _ _ _=>pifs_nil) (fun _ _ _=>(pe_callX D_greatest (hr.mono (by decide)) rfl passN (pa_cons (pe_callX D_waits_at_turns (hr.mono (by decide)) rfl passN (pa_cons (pv 2) (pa_cons (pv 0) (pa_cons (pe_ix (ix_tupK K rfl) (pv 1) pe_int (fun _ _=>rfl)) pa_nil)))) pa_nil))))))),?_⟩
    show tSeq _ _ _ [some (.ref l),none] H
    have n8:=PL.n8
    have len:=SL.len
    refine seq_step fun R hR=>?_
    walk_at "rd"
    refine ⟨l,ps,ss,L,rfl,SL,PL,fun cl cp m H1 s1 ncl CL en=>hR _ _ ?_⟩
    have SL1:=SL.same s1
    walk_at "rd"
    refine ⟨⟨_,.of SL1.hl⟩,fun Dl hDl=>?_⟩
    refine comp_enum (xs:=ps.map V.ref) (fun i τ H'=>∃ v0 v1 es,τ = [v0,v1,some (.ref cl)]∧Same H1 H'∧Lst fq H' Dl es (fr i (Sw.waS ss m))) ⟨none,none,[],rfl,same_new hDl,⟨upd_same,.nil⟩⟩ (fun i τ H' _ ⟨_,_,_,_,s',_⟩=>.of (s' _ _ SL1.hl)) ?_ ?_
    · rintro i y τ H2 p hy ⟨v0,v1,es,rfl,s2,L2⟩ hp'
      obtain ⟨px,hpx,rfl⟩:∃ p,ps[i]? = some p∧V.ref p=y:=by simpa using hy
      have hi:i<ss.length:=by have:=(List.getElem?_eq_some_iff.mp hpx).1; omega
      have esl:=tupsF_len L2.r
      rw [fr_len] at esl
      have sn:=same_new (o:=.tup [.int i,.ref px]) hp'
      have s2:=s2.trans sn
      have L2:=L2.same sn
      refine ⟨p,_,rfl,.of upd_same,rfl,_,_,rfl,_,_,rfl,rfl,?_⟩
      generalize upd H2 p (.tup [.int i,.ref px])=H3 at s2 L2 ⊢
      clear sn hp'
      obtain ⟨p2,pl,pr,e1,_,h1,h2,h3⟩:=(SL1.same s2).item hi
      rw [hpx] at e1
      cases e1
      simp only [tYes,if_true]
      walk_at "rd"
      refine ixT_at (.of h1) rfl ?_
      refine ⟨cl,cp,i,pl,pr,ss,L,m,rfl,CL.same s2,h2,h3,PL,en,hi,fun fl fp H4 s4 nfl FL=>?_⟩
      refine ⟨fl,fp,_,rfl,FL,fun q hq=>Sw.wt_sz PL en hi hq,fun r H5 s5 hr5=>?_⟩
      have s5:=s4.trans s5
      have L5:=L2.same s5
      have kt:∀ b xs,H5 b=some (.tup xs)→upd H5 Dl (.lst (es.map V.ref++[.ref r])) b=some (.tup xs):=fun b xs e=>by
        rw [upd_ne (ne_of e L5.hl (by intro z; cases z))]; exact e
      refine ⟨_,L5.hl,line_lt (by rw [List.length_map]; omega),fun b o e=>?_,es++[r],?_⟩
      · rw [upd_ne (ne_of_none e hDl)]; exact s5 _ _ (s2 _ _ e)
      · rw [fr_snoc]
        exact ⟨by rw [upd_same,List.map_append]; rfl,tupsF_snoc (kt _ _ hr5) (tupsF_keep L5.r kt)⟩
    rintro τ H2 ⟨v0,v1,es,rfl,s2,L2⟩
    rw [List.length_map,len] at L2
    exact k Dl es m H2 (s1.trans s2) (s1.free hDl) L2 en
def spHeads:Sp:=fun vs H Q _=>∃ l ps us pm m,vs = [.ref l,.ref pm]∧H l=some (.lst (ps.map V.ref))∧TagsAt H ps us∧H pm=some (.tup (fq m))∧Sw.SzQ 5000 m∧(∀ u∈us,Sw.SzQ 5000 u.1∧Sw.SzQ 5000 u.2.1)∧us.length≤200 ∧
  ∀ r rs H',Same H H'→H' r=some (.lst (rs.map V.ref))→TagsAt H' rs (Sw.hds us m)→Q (.ref r) H'
theorem d_heads_of (T:Txt K mg c_Tide):Def P w K mg base (CXX P w) 2 "heads_of" ["tagged", "mark"] spHeads:=by
  have D_under:=d_under (P:=P) (w:=w) (base:=base) T
  refine T.src_heads_of.okN (k:=1) sc_heads_of (fun vs H Q E h=>?_) (fun f cdv A outer s H vs Q E hr h=>?_)
  · obtain ⟨l,ps,us,pm,m,rfl,_⟩:=h
    rfl
  · obtain ⟨l,ps,us,pm,m,rfl,hl,tg,hm,zm,zu,lu,k⟩:=h
    refine ⟨_,(pss_one (ps_ret (pe_lc ["one"] [("mark", 1)] rfl (by with_unfolding_all rfl) (by decide +kernel) rfl (by decide +kernel) (by exact ⟨rfl,True.intro⟩) (by with_unfolding_all rfl) ⟨⟨rfl,rfl,rfl⟩,True.intro⟩ (pi_listK K rfl (pv 0)) (fun _ _ _=>(pg_name (i:=0) (show (["one", "mark"]:List Str).Nodup from by decide +kernel) rfl (by first|left;rfl|right;rfl))) (fun _ _ _=>(pifs_one (PW.pt (pw_and (pt_not (pt_val (pe_callX D_under (hr.mono (by decide)) rfl passN (pa_cons (pv 1) (pa_cons (pe_ix (ix_tupK K rfl) (pv 0) pe_int (fun _ _=>rfl)) pa_nil))))) (pw_and1 (pt_val (pe_callX D_under (hr.mono (by decide)) rfl passN (pa_cons (pv 1) (pa_cons (pe_ix (ix_tupK K rfl) (pv 0) pe_int (fun _ _=>rfl)) pa_nil))))))))) (fun _ _ _=>(pv 0))))),?_⟩
    show tRet _ _ [some (.ref l),some (.ref pm)] H
    have len:=tags_len tg
    walk_at "rd"
    refine ⟨⟨_,.of hl⟩,fun D hD=>?_⟩
    have lD:l≠D:=ne_of_none hl hD
    show CompG _ _ _ _ D [none,some (.ref pm)] _ _
    refine comp_walk (xs:=ps.map V.ref) (fun i τ H'=>Same H H'∧∃ v rs,τ = [v,some (.ref pm)]∧H' D=some (.lst (rs.map V.ref))∧TagsAt H' rs (Sw.hds (us.take i) m)∧rs.length≤i) ⟨same_new hD,none,[],rfl,upd_same,.nil,Nat.le_refl _⟩ (fun i τ H' _ q=>.of (q.1 _ _ hl)) ?_ ?_
    · rintro i x τ H1 hx ⟨sm,v,rs,rfl,hrs,tr,lr⟩
      obtain ⟨p,hp,rfl⟩:∃ p,ps[i]? = some p∧V.ref p=x:=by
        rw [List.getElem?_map] at hx
        cases e:ps[i]? with
        | none=>rw [e] at hx; cases hx
        | some z=>rw [e] at hx; exact ⟨z,rfl,Option.some.inj hx⟩
      have hi:i<ps.length:=(List.getElem?_eq_some_iff.mp hp).1
      obtain ⟨u,hu,tu⟩:=paired_get tg hp
      obtain ⟨zb,ze⟩:=zu u (List.mem_of_getElem? hu)
      have tu1:=tu.keep fun _ _ q=>sm _ _ q
      obtain ⟨pb,pe,h1,h2,h3⟩:=id tu1
      have hm1:=sm _ _ hm
      have et:Sw.hds (us.take (i+1)) m=Sw.hds (us.take i) m++(if Sw.isHd m u=true then [u] else []):=by
        rw [take_succ_of hu]
        unfold Sw.hds
        rw [List.filter_append]
        congr 1
        rw [List.filter_cons]
        rfl
      have kt:∀ b xs,H1 b=some (.tup xs)→upd H1 D (.lst (rs.map V.ref++[.ref p])) b=some (.tup xs):=fun b xs e=>by
        rw [upd_ne (ne_of e hrs (by intro z; cases z))]; exact e
      walk_at "rd"
      refine ixT_at (.of h1) rfl ⟨pm,pb,m,u.1,rfl,hm1,h2,zm,zb,?_⟩
      walk_at "rd"
      have no:Sw.isHd m u=false→Same H H1∧∃ x,H1 D=some (HO.lst (List.map V.ref x))∧TagsAt H1 x (Sw.hds (List.take (i+1) us) m)∧x.length≤i+1:=fun e=>by
        refine ⟨sm,rs,hrs,?_,by omega⟩
        rw [et,e,if_neg (by decide),List.append_nil]
        exact tr
      refine ite2 (fun h=>no (by unfold Sw.isHd; rw [decide_eq_true h]; rfl)) fun h=>ixT_at (.of h1) rfl ⟨pm,pe,m,u.2.1,rfl,hm1,h3,zm,ze,_,rfl,?_⟩
      refine ite2 (fun h4=>?_) fun h4=>no (by unfold Sw.isHd; rw [show decide (m<u.2.1)=false from eq_false_of_ne_true h4,Bool.and_false])
      refine ⟨_,hrs,line_lt (by rw [List.length_map]; omega),fun b o e=>?_,rs++[p],by rw [upd_same]; simp,?_,by simp; omega⟩
      · rw [upd_ne (ne_of_none e hD)]; exact sm _ _ e
      · rw [et,if_pos (by unfold Sw.isHd; rw [decide_eq_false h,h4]; rfl)]
        exact paired_snoc (tu1.keep kt) (tags_keep tr kt)
    · rintro τ H1 ⟨sm,v,rs,rfl,hrs,tr,lr⟩
      rw [List.take_of_length_le (by rw [List.length_map,len]; exact Nat.le_refl _)] at tr
      exact k D rs H1 sm hrs tr
def spMark (C:Addr):Sp:=fun vs H Q _=>∃ p t lat re us D B,vs = [.ref p,.int t]∧TdM C H p lat re us∧TideOk D B lat re us∧lat≤t∧t<1000000000000000 ∧
  ∀ q H',Same H H'→H' q=some (.tup (fq (Sw.markAt us lat re t)))→Q (.ref q) H'
theorem m_Tide_mark (T:Txt K mg c_Tide):MethD P w K mg base (CXX P w) 4 c_Tide "mark" ["self", "at"] [[]] (spMark c_Tide):=by
  have D_plus:=d_plus (P:=P) (w:=w) (base:=base) T
  have D_minus:=d_minus (P:=P) (w:=w) (base:=base) T
  have D_times:=d_times (P:=P) (w:=w) (base:=base) T
  have D_over:=d_over (P:=P) (w:=w) (base:=base) T
  have D_under:=d_under (P:=P) (w:=w) (base:=base) T
  have D_least:=d_least (P:=P) (w:=w) (base:=base) T
  have D_heads_of:=d_heads_of (P:=P) (w:=w) (base:=base) T
  refine T.me_Tide_mark.okN (k:=3) sc_Tide_mark (fun vs H Q E h=>?_) (fun f cdv A outer s H vs Q E hr h=>?_)
  · obtain ⟨p,t,lat,re,us,D,B,rfl,_⟩:=h
    rfl
  · obtain ⟨p,t,lat,re,us,D,B,rfl,td,ok,hlt,t1,k⟩:=h
    refine ⟨_,(pss_cons (ps_set (i:=2) sc_Tide_mark.nd rfl (by first|left;rfl|right;rfl) (pe_tup (pa_cons (pe_fld (pv 0) rfl) (pa_cons pe_int pa_nil)))) (pss_cons (ps_set (i:=3) sc_Tide_mark.nd rfl (by first|left;rfl|right;rfl) (pe_fld (pv 0) rfl)) (pss_cons (ps_set (i:=4) sc_Tide_mark.nd rfl (by first|left;rfl|right;rfl) (pe_callX D_heads_of (hr.mono (by decide)) rfl passN (pa_cons (pe_fld (pv 0) rfl) (pa_cons (pv 3) pa_nil)))) (pss_cons (ps_while PassesOwn.never (pt_truthK K rfl (pv 4)) (pss_cons (ps_set (i:=5) sc_Tide_mark.nd rfl (by first|left;rfl|right;rfl) (pe_tup (pa_cons (pe_callB (call_sumK K rfl rfl) rfl T.no_sum boot_sum (pa_cons (pe_lc ["begin", "end", "share"] [] rfl (by with_unfolding_all rfl) (by decide +kernel) rfl (by decide +kernel) (by exact True.intro) (by with_unfolding_all rfl) True.intro (pi_listK K rfl (pv 4)) (fun _ _ _=>(pg_tupK (n:=3) K rfl rfl (pgs_cons (pg_name (i:=0) (show (["begin", "end", "share"]:List Str).Nodup from by decide +kernel) rfl (by first|left;rfl|right;rfl)) (pgs_cons (pg_name (i:=1) (show (["begin", "end", "share"]:List Str).Nodup from by decide +kernel) rfl (by first|left;rfl|right;rfl)) (pgs_cons (pg_name (i:=2) (show (["begin", "end", "share"]:List Str).Nodup from by decide +kernel) rfl (by first|left;rfl|right;rfl)) pgs_nil))))) (fun _ _ _=>pifs_nil) (fun _ _ _=>(pv 2))) pa_nil)) (pa_cons pe_int pa_nil)))) (pss_cons (ps_set (i:=6) sc_Tide_mark.nd rfl (by first|left;rfl|right;rfl) (pe_callX D_least (hr.mono (by decide)) rfl passN (pa_cons (pe_lc ["begin", "end", "share"] [] rfl (by with_unfolding_all rfl) (by decide +kernel) rfl (by decide +kernel) (by exact True.intro) (by with_unfolding_all rfl) True.intro (pi_listK K rfl (pv 4)) (fun _ _ _=>(pg_tupK (n:=3) K rfl rfl (pgs_cons (pg_name (i:=0) (show (["begin", "end", "share"]:List Str).Nodup from by decide +kernel) rfl (by first|left;rfl|right;rfl)) (pgs_cons (pg_name (i:=1) (show (["begin", "end", "share"]:List Str).Nodup from by decide +kernel) rfl (by first|left;rfl|right;rfl)) (pgs_cons (pg_name (i:=2) (show (["begin", "end", "share"]:List Str).Nodup from by decide +kernel) rfl (by first|left;rfl|right;rfl)) pgs_nil))))) (fun _ _ _=>pifs_nil) (fun _ _ _=>(pv 1))) pa_nil))) (pss_cons (ps_set (i:=7) sc_Tide_mark.nd rfl (by first|left;rfl|right;rfl) (pe_callX D_plus (hr.mono (by decide)) rfl passN (pa_cons (pv 2) (pa_cons (pe_callX D_times (hr.mono (by decide)) rfl passN (pa_cons (pe_callX D_minus (hr.mono (by decide)) rfl passN (pa_cons (pv 6) (pa_cons (pv 3) pa_nil))) (pa_cons (pv 5) pa_nil))) pa_nil)))) (pss_cons (ps_if (pt_val (pe_callX D_under (hr.mono (by decide)) rfl passN (pa_cons (pe_tup (pa_cons (pv 1) (pa_cons pe_int pa_nil))) (pa_cons (pv 7) pa_nil)))) (pss_one (ps_ret (pe_callX D_plus (hr.mono (by decide)) rfl passN (pa_cons (pv 3) (pa_cons (pe_callX D_over (hr.mono (by decide)) rfl passN (pa_cons (pe_callX D_minus (hr.mono (by decide)) rfl passN (pa_cons (pe_tup (pa_cons (pv 1) (pa_cons pe_int pa_nil))) (pa_cons (pv 2) pa_nil))) (pa_cons (pv 5) pa_nil))) pa_nil))))) pss_nil) (pss_cons (ps_set (i:=2) sc_Tide_mark.nd rfl (by first|left;rfl|right;rfl) (pv 7)) (pss_cons (ps_set (i:=3) sc_Tide_mark.nd rfl (by first|left;rfl|right;rfl) (pv 6)) (pss_one (ps_set (i:=4) sc_Tide_mark.nd rfl (by first|left;rfl|right;rfl) (pe_callX D_heads_of (hr.mono (by decide)) rfl passN (pa_cons (pe_fld (pv 0) rfl) (pa_cons (pv 3) pa_nil)))))))))))) (pss_one (ps_ret (pe_tup (pa_cons (pe_ix (ix_tupK K rfl) (pv 3) pe_int (fun _ _=>rfl)) (pa_cons (pe_ix (ix_tupK K rfl) (pv 3) pe_int (fun _ _=>rfl)) pa_nil))))))))),?_⟩
    show tSeq _ _ _ [some (.ref p),some (.int t),none,none,none,none,none,none] H
    obtain ⟨dx,fs,pr,pu,pe,ps,hp,ft,hr',hu,tg⟩:=id td.ex
    refine seq_step fun R hR=>?_
    walk_at "rd"
    refine fldR_at hp T.cl_Tide T.na_Tide_latest ft.lat ?_
    walk_at "rd"
    intro x1 f1
    have s1:=same_new (o:=.tup [.int lat,.int 1]) f1
    have h1:=at_int (H:=H) (p:=x1) (n:=lat)
    have hp:=s1 _ _ hp
    have hr':=s1 _ _ hr'
    have hu:=s1 _ _ hu
    have tg:=tags_same tg s1
    generalize upd H x1 (.tup [.int lat,.int 1])=H1 at s1 h1 hp hr' hu tg ⊢
    refine hR _ _ ?_
    refine seq_step fun R hR=>?_
    walk_at "rd"
    refine fldR_at hp T.cl_Tide T.na_Tide_reached ft.rch (hR _ _ ?_)
    refine seq_step fun R hR=>?_
    walk_at "rd"
    refine fldR_at hp T.cl_Tide T.na_Tide_unflowed ft.unf ?_
    have zus:∀ u∈us,Sw.SzQ 5000 u.1∧Sw.SzQ 5000 u.2.1:=fun u h=>ok.zu u h
    refine ⟨pu,ps,us,pr,re,rfl,hu,tg,hr',ok.zr.mono (by decide),zus,by have:=ok.len; omega,fun hd rs H2 s2 hh th=>hR _ _ ?_⟩
    refine seq_step fun R hR=>?_
    refine while_m (fun m σ H'=>Same H H'∧∃ mo rq n x y z rs v5 v6 v7,σ = [some (.ref p),some (.int t),some (.ref x),some (.ref y),some (.ref z),v5,v6,v7]∧H' x=some (.tup (fq mo))∧H' y=some (.tup (fq rq))∧H' z=some (.lst (rs.map V.ref))∧TagsAt H' rs (Sw.hds us rq) ∧
      H' p=some (.ins c_Tide dx fs)∧H' pu=some (.lst (ps.map V.ref))∧TagsAt H' ps us∧Sw.Grd D mo∧0≤mo∧mo≤(t:Rat)∧Sw.Grd D rq∧0≤rq∧rq≤(B:Rat) ∧
      Sw.markAt us lat re t=Sw.markF us (t:Rat) (n+1) mo rq∧Sw.ahead us rq≤n∧m=Sw.ahead us rq) (m0:=Sw.ahead us re)
      ⟨s1.trans s2,lat,re,us.length,x1,pr,hd,rs,none,none,none,rfl,s2 _ _ h1,s2 _ _ hr',hh,th,s2 _ _ hp,s2 _ _ hu,tags_same tg s2,Sw.Grd.int (by have:=ok.gb.D0; omega) lat,ok.lat0,Rat.intCast_le_intCast.mpr hlt,ok.gre,ok.re0,ok.reB,rfl,Sw.ahead_le _ _,rfl⟩ ?_
    rintro m σ H3 ⟨sm,mo,rq,n,x,y,z,rs,v5,v6,v7,rfl,hx,hy,hz,th,hp,hu,tg,gm,m0,m1,gr,r0,r1,em,an,rfl⟩
    refine ⟨!(rs.map V.ref).isEmpty,fun Q hQ=>⟨_,rfl,_,truL (.of hz),hQ⟩,fun hb=>?_,fun hb=>?_⟩
    · have hne:Sw.hds us rq≠[]:=by
        intro z
        rw [z] at th
        cases th
        exact absurd hb (by decide)
      have gt:=Sw.fstE_gt hne
      have lth:=tags_len th
      have lhd:(Sw.hds us rq).length≤100:=Nat.le_trans (List.length_filter_le _ _) ok.len
      have hok:∀ u∈Sw.hds us rq,TagOk D B u:=fun u h=>ok.tus u (Sw.hds_mem h).1
      refine seq_step fun R' hR'=>?_
      walk_at "rd"
      refine ⟨⟨_,.of hz⟩,fun Dl hDl=>?_⟩
      show CompG _ _ _ _ Dl [none,none,none] _ _
      refine comp_walk (xs:=rs.map V.ref) (fun i τ H'=>Same H3 H'∧∃ w1 w2 w3,τ = [w1,w2,w3]∧H' Dl=some (.lst ((((Sw.hds us rq).take i).map fun u=>u.2.2).map V.int))) ⟨same_new hDl,none,none,none,rfl,upd_same⟩ (fun i τ H' _ q=>.of (q.1 _ _ hz)) ?_ ?_
      · rintro i w τ H4 hw ⟨sm4,w1,w2,w3,rfl,hl4⟩
        obtain ⟨pp,hpp,rfl⟩:∃ p,rs[i]? = some p∧V.ref p=w:=by
          rw [List.getElem?_map] at hw
          cases e:rs[i]? with
          | none=>rw [e] at hw; cases hw
          | some z=>rw [e] at hw; exact ⟨z,rfl,Option.some.inj hw⟩
        have hi:i<rs.length:=(List.getElem?_eq_some_iff.mp hpp).1
        obtain ⟨u,hu',tu⟩:=paired_get th hpp
        obtain ⟨pb,pe',g1,g2,g3⟩:=tu.keep fun _ _ q=>sm4 _ _ q
        walk_at "rd"
        refine ⟨_,.of g1,rfl,_,_,rfl,_,_,rfl,_,_,rfl,rfl,?_⟩
        unfold tYes
        walk_at "rd"
        refine ⟨_,hl4,line_lt (by simp; omega),fun b o e=>?_,?_⟩
        · rw [upd_ne (ne_of_none e hDl)]; exact sm4 _ _ e
        · rw [upd_same,take_succ_of hu',List.map_append,List.map_append]
          rfl
      · rintro τ H4 ⟨sm4,w1,w2,w3,rfl,hl4⟩
        rw [List.take_of_length_le (by rw [List.length_map,lth]; exact Nat.le_refl _)] at hl4
        refine ⟨Dl,_,rfl,.of hl4,?_⟩
        walk_at "rd"
        intro q5 f5
        have eS:((Sw.hds us rq).map fun u=>u.2.2).sum=Sw.sumS (Sw.hds us rq):=rfl
        rw [eS]
        have hS:=sumS_ok hok hne
        have hS2:Sw.sumS (Sw.hds us rq)≤100000000:=by have:=hS.2; omega
        generalize hSv:Sw.sumS (Sw.hds us rq)=S at hS hS2
        have sm5:=sm4.trans (same_new (o:=.tup [.int S,.int 1]) f5)
        have h5:=at_int (H:=H4) (p:=q5) (n:=S)
        generalize upd H4 q5 (.tup [.int S,.int 1])=H5 at sm5 h5 ⊢
        clear hl4 sm4 hDl f5 eS
        refine hR' _ _ ?_
        have hz:=sm5 _ _ hz
        have th:=tags_same th sm5
        have hx:=sm5 _ _ hx
        have hy:=sm5 _ _ hy
        have hp:=sm5 _ _ hp
        have hu:=sm5 _ _ hu
        have tg:=tags_same tg sm5
        have sm:=sm.trans sm5
        clear sm5
        refine seq_step fun R' hR'=>?_
        walk_at "rd"
        refine ⟨⟨_,.of hz⟩,fun Dl hDl=>?_⟩
        show CompG _ _ _ _ Dl [none,none,none] _ _
        refine comp_walk (xs:=rs.map V.ref) (fun i τ H'=>Same H5 H'∧∃ w1 w2 w3 es,τ = [w1,w2,w3]∧Lst fq H' Dl es (((Sw.hds us rq).take i).map fun u=>u.2.1)∧es.length≤i) ⟨same_new hDl,none,none,none,[],rfl,⟨upd_same,.nil⟩,Nat.le_refl _⟩ (fun i τ H' _ q=>.of (q.1 _ _ hz)) ?_ ?_
        · rintro i w τ H6 hw ⟨sm4,w1,w2,w3,es,rfl,L6,le6⟩
          obtain ⟨pp,hpp,rfl⟩:∃ p,rs[i]? = some p∧V.ref p=w:=by
            rw [List.getElem?_map] at hw
            cases e:rs[i]? with
            | none=>rw [e] at hw; cases hw
            | some z=>rw [e] at hw; exact ⟨z,rfl,Option.some.inj hw⟩
          have hi:i<rs.length:=(List.getElem?_eq_some_iff.mp hpp).1
          obtain ⟨u,hu',tu⟩:=paired_get th hpp
          obtain ⟨pb,pe',g1,g2,g3⟩:=tu.keep fun _ _ q=>sm4 _ _ q
          have kt:∀ b xs,H6 b=some (.tup xs)→upd H6 Dl (.lst (es.map V.ref++[.ref pe'])) b=some (.tup xs):=fun b xs e=>by
            rw [upd_ne (ne_of e L6.hl (by intro z; cases z))]; exact e
          walk_at "rd"
          refine ⟨_,.of g1,rfl,_,_,rfl,_,_,rfl,_,_,rfl,rfl,?_⟩
          unfold tYes
          walk_at "rd"
          refine ⟨_,L6.hl,line_lt (by simp; omega),fun b o e=>?_,es++[pe'],⟨by rw [upd_same]; simp,?_⟩,by simp; omega⟩
          · rw [upd_ne (ne_of_none e hDl)]; exact sm4 _ _ e
          · rw [take_succ_of hu',List.map_append]
            exact tupsF_snoc (kt _ _ g3) (tupsF_keep L6.r kt)
        · rintro τ H6 ⟨sm4,w1,w2,w3,es,rfl,L6,le6⟩
          rw [List.take_of_length_le (by rw [List.length_map,lth]; exact Nat.le_refl _)] at L6
          refine ⟨Dl,es,_,rfl,L6,by simpa using hne,fun q hq=>?_,fun fe H7 sm7 hfe=>hR' _ _ ?_⟩
          · obtain ⟨u,hu',rfl⟩:=List.mem_map.mp hq
            exact (ok.zu u (Sw.hds_mem hu').1).2
          have eF:Sw.minL ((Sw.hds us rq).map fun u=>u.2.1)=Sw.fstE (Sw.hds us rq):=rfl
          rw [eF] at hfe
          obtain ⟨uf,huf,ef⟩:=Sw.fstE_mem hne
          have tf:=hok uf huf
          have gf:Sw.Grd D (Sw.fstE (Sw.hds us rq)):=by rw [ef]; exact tf.e
          have fB:Sw.fstE (Sw.hds us rq)≤(B:Rat):=by rw [ef]; exact tf.eB
          have an2:=Sw.ahead_lt hne
          have em2:Sw.markF us (t:Rat) (n+1) mo rq=(if (t:Rat)<mo+(Sw.fstE (Sw.hds us rq)-rq)*(S:Rat) then rq+((t:Rat)-mo) / (S:Rat) else Sw.markF us (t:Rat) n (mo+(Sw.fstE (Sw.hds us rq)-rq)*(S:Rat)) (Sw.fstE (Sw.hds us rq))):=by
            show (if Sw.hds us rq = [] then _ else _) = _
            rw [if_neg hne,hSv]
          rw [em2] at em
          generalize Sw.fstE (Sw.hds us rq)=fv at hfe gf fB gt an2 em
          have sm5:=sm4.trans sm7
          have hx:=sm5 _ _ hx
          have hy:=sm5 _ _ hy
          have hp:=sm5 _ _ hp
          have hu:=sm5 _ _ hu
          have tg:=tags_same tg sm5
          have h5:=sm5 _ _ h5
          have sm:=sm.trans sm5
          clear sm5 sm4 sm7 L6 hDl hz
          have gb:=ok.gb
          have B0:=gb.B0
          have B1:=gb.B1
          have Bq:(0:Rat)≤(B:Rat):=by grind
          have S0:(0:Rat)≤(S:Rat):=by
            have:((0:Int):Rat)≤(S:Rat):=Rat.intCast_le_intCast.mpr (by omega)
            exact this
          have d0:0≤fv-rq:=by grind
          have d1:fv-rq≤(B:Rat):=by grind
          have gd:=gf.sub gr
          have pd0:0≤(fv-rq)*(S:Rat):=Rat.mul_nonneg d0 S0
          have pd1:(fv-rq)*(S:Rat)≤((B*S:Int):Rat):=by
            rw [Rat.intCast_mul]; exact Rat.mul_le_mul_of_nonneg_right d1 S0
          have BS:B*S≤10000000000*100000000:=Int.mul_le_mul B1 hS2 (by omega) (by decide)
          have BS0:0≤B*S:=Int.mul_nonneg B0 (by omega)
          have gp:=gd.muli S
          have ga:=gm.add gp
          have tq:(t:Rat)≤((1000000000000000:Int):Rat):=Rat.intCast_le_intCast.mpr (by omega)
          have zd:Sw.SzQ 1570 (fv-rq):=gb.szB gd d0 d1
          have zp:Sw.SzQ 1570 ((fv-rq)*(S:Rat)):=gb.sz (M:=B*S) gp (by rw [Rat.intCast_mul] at pd1; grind) pd1 (by omega) (by omega)
          have a0:0≤mo+(fv-rq)*(S:Rat):=by grind
          have a1:mo+(fv-rq)*(S:Rat)≤((1000000000000000+B*S:Int):Rat):=by rw [Rat.intCast_add]; grind
          have za:Sw.SzQ 1570 (mo+(fv-rq)*(S:Rat)):=gb.sz (M:=1000000000000000+B*S) ga (by have:=Rat.neg_le_neg a1; grind) a1 (by omega) (by omega)
          have zS:Sw.SzQ 70 (S:Rat):=.int (Sw.Sz.r18 (by omega) (by omega))
          have zm:Sw.SzQ 1570 mo:=gb.sz (M:=1000000000000000) gm (by grind) (by grind) (by decide) (by decide)
          have zrq:Sw.SzQ 1570 rq:=gb.szB gr r0 r1
          have zf:Sw.SzQ 1570 fv:=gb.szB gf (by grind) fB
          refine seq_step fun R' hR'=>?_
          walk_at "rd"
          refine ⟨fe,y,fv,rq,1570,rfl,hfe,hy,by decide,zf,zrq,fun q1 f1=>?_⟩
          have n1:=same_new (o:=.tup (fq (fv-rq))) f1
          refine ⟨q1,q5,fv-rq,(S:Rat),1570,rfl,upd_same,n1 _ _ h5,by decide,zd,zS.mono (by decide),fun q2 f2'=>?_⟩
          have n2:=same_new (o:=.tup (fq ((fv-rq)*(S:Rat)))) f2'
          refine ⟨x,q2,mo,(fv-rq)*(S:Rat),1570,rfl,n2 _ _ (n1 _ _ hx),upd_same,by decide,zm,zp,fun q3 f3=>hR' _ _ ?_⟩
          have n3:=same_new (o:=.tup (fq (mo+(fv-rq)*(S:Rat)))) f3
          have nn:=(n1.trans n2).trans n3
          have haf:upd (upd (upd H7 q1 (.tup (fq (fv-rq)))) q2 (.tup (fq ((fv-rq)*(S:Rat))))) q3 (.tup (fq (mo+(fv-rq)*(S:Rat)))) q3=some (.tup (fq (mo+(fv-rq)*(S:Rat)))):=upd_same
          generalize upd (upd (upd H7 q1 (.tup (fq (fv-rq)))) q2 (.tup (fq ((fv-rq)*(S:Rat))))) q3 (.tup (fq (mo+(fv-rq)*(S:Rat))))=H8 at nn haf ⊢
          have hx:=nn _ _ hx
          have hy:=nn _ _ hy
          have hp:=nn _ _ hp
          have hu:=nn _ _ hu
          have tg:=tags_same tg nn
          have h5:=nn _ _ h5
          have hfe:=nn _ _ hfe
          have sm:=sm.trans nn
          clear nn n1 n2 n3 f1 f2' f3
          refine seq_step fun R' hR'=>?_
          walk_at "rd"
          intro q4 f4
          have n4:=same_new (o:=.tup [.int t,.int 1]) f4
          have zt:Sw.SzQ 70 (t:Rat):=.int (Sw.Sz.r18 (by have:=ok.l0; omega) (by omega))
          refine ⟨q4,q3,t,mo+(fv-rq)*(S:Rat),rfl,at_int,n4 _ _ haf,zt.mono (by decide),za.mono (by decide),?_⟩
          have sm:=sm.trans n4
          have hx:=n4 _ _ hx
          have hy:=n4 _ _ hy
          have hp:=n4 _ _ hp
          have hu:=n4 _ _ hu
          have tg:=tags_same tg n4
          have h5:=n4 _ _ h5
          have hfe:=n4 _ _ hfe
          have haf:=n4 _ _ haf
          generalize upd H8 q4 (.tup [.int t,.int 1])=H9 at sm hx hy hp hu tg h5 hfe haf ⊢
          clear n4 f4
          walk_at "rd"
          refine ite2 (fun hlt2=>?_) fun hlt2=>hR' _ _ ?_
          · rw [if_pos hlt2] at em
            intro q6 f6
            have n6:=same_new (o:=.tup [.int t,.int 1]) f6
            have td0:0≤(t:Rat)-mo:=by grind
            have zx:Sw.SzQ 1570 ((t:Rat)-mo):=gb.sz (M:=1000000000000000) ((Sw.Grd.int (by have:=gb.D0; omega) t).sub gm) (by grind) (by grind) (by decide) (by decide)
            have Sn:(S:Rat)≠0:=Sw.q_cast_ne (by omega)
            refine ⟨q6,x,t,mo,1570,rfl,at_int,n6 _ _ hx,by decide,zt.mono (by decide),zm,fun q7 f7=>?_⟩
            have n7:=same_new (o:=.tup (fq ((t:Rat)-mo))) f7
            refine ⟨q7,q5,(t:Rat)-mo,S,1570,rfl,upd_same,n7 _ _ (n6 _ _ h5),by decide,zx,zS.mono (by decide),Sn,fun q8 f8=>?_⟩
            have n8:=same_new (o:=.tup (fq (((t:Rat)-mo) / (S:Rat)))) f8
            refine ⟨y,q8,rq,((t:Rat)-mo) / (S:Rat),1640,rfl,n8 _ _ (n7 _ _ (n6 _ _ hy)),upd_same,by decide,zrq.mono (by decide),Sw.SzQ.div (Sw.q_num_ne Sn) zx zS,fun q9 f9=>?_⟩
            refine k q9 _ ((((sm.trans n6).trans n7).trans n8).trans (same_new f9)) ?_
            rw [em,upd_same]
          · rw [if_neg hlt2] at em
            refine seq_step fun R' hR'=>?_
            walk_at "rd"
            refine hR' _ _ ?_
            refine seq_step fun R' hR'=>?_
            walk_at "rd"
            refine hR' _ _ ?_
            refine nx_step fun R' hR'=>?_
            walk_at "rd"
            refine fldR_at hp T.cl_Tide T.na_Tide_unflowed ft.unf ?_
            refine ⟨pu,ps,us,fe,fv,rfl,hu,tg,hfe,zf.mono (by decide),zus,by have:=ok.len; omega,fun hd rs H10 s10 hh th=>hR' _ _ ?_⟩
            have an3:0<n:=by omega
            obtain ⟨n',rfl⟩:∃ n',n=n' + 1:=⟨n-1,by omega⟩
            exact ⟨_,an2,sm.trans s10,mo+(fv-rq)*(S:Rat),fv,n',q3,fe,hd,rs,_,_,_,rfl,s10 _ _ haf,s10 _ _ hfe,hh,th,s10 _ _ hp,s10 _ _ hu,tags_same tg s10,ga,a0,by grind,gf,by grind,fB,em,by omega,rfl⟩
    · refine hR _ _ ?_
      have hn:Sw.hds us rq = []:=by
        have:rs = []:=by simpa using hb
        subst this
        exact List.length_eq_zero_iff.mp (tags_len th).symm
      walk_at "rd"
      refine ixT_at (.of hy) rfl (ixT_at (.of hy) rfl fun q hq=>?_)
      refine k q _ (sm.trans (same_new hq)) ?_
      rw [em]
      unfold Sw.markF
      rw [if_pos hn,upd_same]
      rfl
def spTI (C:Addr):Sp:=fun vs H Q _=>∃ x dx,vs = [.ref x]∧H x=some (.ins C dx [])∧∀ pe H',But x H H'→H pe=none→Td C H' x pe 0 0 [] (fun _=>none) 0→Q .non H'
theorem k_Tide (T:Txt K mg c_Tide):MkD P w K mg base (CXX P w) 3 c_Tide ["self"] [[]] (spTI c_Tide):=by
  have D_ratio:=d_ratio (P:=P) (w:=w) (base:=base) T
  refine T.in_Tide.okN (k:=2) sc_Tide_init (fun vs H Q E h=>?_) (fun f cdv A outer s H vs Q E hr h=>?_)
  · obtain ⟨x,dx,rfl,_⟩:=h
    rfl
  · obtain ⟨x,dx,rfl,hx,k⟩:=h
    refine ⟨_,(pss_cons (ps_fld (pv 0) pe_int rfl) (pss_cons (ps_fld (pv 0) (pe_callX D_ratio (hr.mono (by decide)) rfl passN (pa_cons pe_int (pa_cons pe_int pa_nil))) rfl) (pss_cons (ps_fld (pv 0) (pe_lst pa_nil) rfl) (pss_one (ps_fld (pv 0) pe_dnewK rfl))))),?_⟩
    show tSeq _ _ _ [some (.ref x)] H
    have l1:=putF_len' (fs:=[]) (f := "latest") (v:=.int 0)
    simp only [List.length_nil] at l1
    refine seq_step fun R hR=>?_
    walk_at "rd"
    refine set_at hx T.cl_Tide T.na_Tide_latest (by simp) (hR _ _ ?_)
    refine seq_step fun R hR=>?_
    walk_at "rd"
    refine ⟨0,1,1,rfl,by decide,Sw.Sz.one _,fun _ pr hpr=>?_,fun z=>absurd z (by decide)⟩
    have nx:x≠pr:=by
      intro z
      rw [z,upd_same] at hpr
      cases hpr
    have npr:H pr=none:=by rw [upd_ne (Ne.symm nx)] at hpr; exact hpr
    have l2:=putF_len' (fs:=putF "latest" (.int 0) []) (f := "reached") (v:=.ref pr)
    walk_at "rd"
    refine set_at (C:=c_Tide) (dx:=dx) (fs:=putF "latest" (.int 0) []) (by rw [upd_ne nx,upd_same]) T.cl_Tide T.na_Tide_reached (by omega) (hR _ _ ?_)
    have e0:((0:Int):Rat) / ((1:Int):Rat) = 0:=by
      have z0:((0:Int):Rat) = 0:=rfl
      rw [z0]; grind
    rw [e0]
    have q1:But x H (upd (upd (upd H x (.ins c_Tide dx (putF "latest" (.int 0) []))) pr (.tup (fq 0))) x (.ins c_Tide dx (putF "reached" (.ref pr) (putF "latest" (.int 0) [])))):=fun b o n e=>by
      rw [upd_ne n,upd_ne (ne_of_none e npr),upd_ne n]; exact e
    have hx1:upd (upd (upd H x (.ins c_Tide dx (putF "latest" (.int 0) []))) pr (.tup (fq 0))) x (.ins c_Tide dx (putF "reached" (.ref pr) (putF "latest" (.int 0) []))) x=some (.ins c_Tide dx (putF "reached" (.ref pr) (putF "latest" (.int 0) []))):=upd_same
    have hr1:upd (upd (upd H x (.ins c_Tide dx (putF "latest" (.int 0) []))) pr (.tup (fq 0))) x (.ins c_Tide dx (putF "reached" (.ref pr) (putF "latest" (.int 0) []))) pr=some (.tup (fq 0)):=by rw [upd_ne (Ne.symm nx),upd_same]
    generalize upd (upd (upd H x (.ins c_Tide dx (putF "latest" (.int 0) []))) pr (.tup (fq 0))) x (.ins c_Tide dx (putF "reached" (.ref pr) (putF "latest" (.int 0) [])))=H1 at q1 hx1 hr1 ⊢
    refine seq_step fun R hR=>?_
    walk_at "rd"
    intro pu hpu
    have s1:=same_new (o:=.lst []) hpu
    have l3:=putF_len' (fs:=putF "reached" (.ref pr) (putF "latest" (.int 0) [])) (f := "unflowed") (v:=.ref pu)
    have nxu:x≠pu:=ne_of_none hx1 hpu
    refine set_at (s1 _ _ hx1) T.cl_Tide T.na_Tide_unflowed (by omega) (hR _ _ ?_)
    have npru:pr≠pu:=ne_of_none hr1 hpu
    have q2:But x H (upd (upd H1 pu (.lst [])) x (.ins c_Tide dx (putF "unflowed" (.ref pu) (putF "reached" (.ref pr) (putF "latest" (.int 0) []))))):=fun b o n e=>by
      rw [upd_ne n]; exact s1 _ _ (q1 b o n e)
    have hx2:upd (upd H1 pu (.lst [])) x (.ins c_Tide dx (putF "unflowed" (.ref pu) (putF "reached" (.ref pr) (putF "latest" (.int 0) [])))) x=some (.ins c_Tide dx (putF "unflowed" (.ref pu) (putF "reached" (.ref pr) (putF "latest" (.int 0) [])))):=upd_same
    have hr2:upd (upd H1 pu (.lst [])) x (.ins c_Tide dx (putF "unflowed" (.ref pu) (putF "reached" (.ref pr) (putF "latest" (.int 0) [])))) pr=some (.tup (fq 0)):=by rw [upd_ne (Ne.symm nx)]; exact s1 _ _ hr1
    have hu2:upd (upd H1 pu (.lst [])) x (.ins c_Tide dx (putF "unflowed" (.ref pu) (putF "reached" (.ref pr) (putF "latest" (.int 0) [])))) pu=some (.lst []):=by rw [upd_ne (Ne.symm nxu),upd_same]
    generalize upd (upd H1 pu (.lst [])) x (.ins c_Tide dx (putF "unflowed" (.ref pu) (putF "reached" (.ref pr) (putF "latest" (.int 0) []))))=H2 at q2 hx2 hr2 hu2 ⊢
    walk_at "rd"
    intro pe hpe
    have s3:=same_new (o:=.dK []) hpe
    have nxe:x≠pe:=ne_of_none hx2 hpe
    have fe:H pe=none:=by
      cases e:H pe with
      | none=>rfl
      | some o=>rw [q2 pe o (Ne.symm nxe) e] at hpe; cases hpe
    refine set_at (s3 _ _ hx2) T.cl_Tide T.na_Tide_last_ends (by omega) ?_
    refine k pe _ (fun b o n e=>?_) fe ⟨dx,_,pr,pu,[],[],upd_same,FT.mk0 pr pu pe,?_,?_,.nil,?_,fun w=>.inl ⟨rfl,rfl⟩,Nat.le_refl _,Nat.le_refl _⟩
    · rw [upd_ne n]; exact s3 _ _ (q2 b o n e)
    · rw [upd_ne (Ne.symm nx)]; exact s3 _ _ hr2
    · rw [upd_ne (Ne.symm nxu)]; exact s3 _ _ hu2
    · rw [upd_ne (Ne.symm nxe),upd_same]
def NoU (C:Addr) (H:Hp) (p l:Addr):Prop:=∀ dx fs pu,H p=some (.ins C dx fs)→fs.lookup ("unflowed" : Str)=some (.ref pu)→pu≠l
theorem NoU.on {C:Addr} {H H':Hp} {p l dx:Addr} {fs:List (Str×V)} (h:NoU C H p l) (e:H p=some (.ins C dx fs)) (e':H' p=some (.ins C dx fs)):NoU C H' p l:=fun dx' fs' pu h1 h2=>by
  rw [e'] at h1
  cases h1
  exact h _ _ _ e h2
theorem Td.list {C:Addr} {H:Hp} {p pe l:Addr} {lat:Int} {re:Rat} {us:List Sw.T3} {en:Int→Option Rat} {m:Nat} {xs ys:List V} (h:Td C H p pe lat re us en m) (n:NoU C H p l) (hl:H l=some (.lst xs)):Td C (upd H l (.lst ys)) p pe lat re us en m:=by
  obtain ⟨dx,fs,pr,pu,ps,kvs,h1,h2,h3,h4,h5,h6,h7,h8⟩:=h.ex
  have kt:∀ b zs,H b=some (.tup zs)→upd H l (.lst ys) b=some (.tup zs):=fun b zs e=>by rw [upd_ne (ne_of e hl (by intro z; cases z))]; exact e
  exact ⟨dx,fs,pr,pu,ps,kvs,by rw [upd_ne (ne_of h1 hl (by intro z; cases z))]; exact h1,h2,kt _ _ h3,by rw [upd_ne (n _ _ _ h1 h2.unf)]; exact h4,tags_keep h5 kt,by rw [upd_ne (ne_of h6 hl (by intro z; cases z))]; exact h6,h7.keep kt,h8⟩
def spCome (C:Addr):Sp:=fun vs H Q _=>∃ p pc t who len sh pe lat re us en m D B,vs = [.ref p,.ref pc]∧H pc=some (.tup [.int t,.int who,.int len,.int sh])∧Td C H p pe lat re us en m∧TideOk D B lat re us∧(∀ w e,en w=some e→Sw.Grd D e∧0≤e∧e≤(B:Rat)) ∧
  lat≤t∧t<1000000000000000∧1≤len∧len≤1000000∧1≤sh∧sh≤1000000∧m≤99 ∧
  ∀ q qb qe H',Kept p pe H H'→Td C H' p pe t (Sw.markAt us lat re t) (Sw.usOn us (Sw.markAt us lat re t) (Sw.begOn en (Sw.markAt us lat re t) who) len sh) (setE en who (Sw.begOn en (Sw.markAt us lat re t) who+(len:Rat) / (sh:Rat))) (m+1) →
    H' q=some (.tup [.ref qb,.ref qe])→H' qb=some (.tup (fq (Sw.begOn en (Sw.markAt us lat re t) who)))→H' qe=some (.tup (fq (Sw.begOn en (Sw.markAt us lat re t) who+(len:Rat) / (sh:Rat))))→(∀ l xs,H l=some (.lst xs)→NoU C H' p l)→Q (.ref q) H'
theorem m_Tide_come (T:Txt K mg c_Tide):MethD P w K mg base (CXX P w) 5 c_Tide "come" ["self", "piece"] [[]] (spCome c_Tide):=by
  have M_Tide_mark:=m_Tide_mark (P:=P) (w:=w) (base:=base) T
  have D_plus:=d_plus (P:=P) (w:=w) (base:=base) T
  have D_under:=d_under (P:=P) (w:=w) (base:=base) T
  have D_greater:=d_greater (P:=P) (w:=w) (base:=base) T
  have D_ratio:=d_ratio (P:=P) (w:=w) (base:=base) T
  refine T.me_Tide_come.okN (k:=4) sc_Tide_come (fun vs H Q E h=>?_) (fun f cdv A outer s H vs Q E hr h=>?_)
  · obtain ⟨p,pc,t,who,len,sh,pe,lat,re,us,en,m,D,B,rfl,_⟩:=h
    rfl
  · obtain ⟨p,pc,t,who,len,sh,pe,lat,re,us,en,m,D,B,rfl,hpc,td,ok,eok,hlt,t1,n1,n2,sh1,sh2,hm,k⟩:=h
    refine ⟨_,(pss_cons (ps_set (i:=2) sc_Tide_come.nd rfl (by first|left;rfl|right;rfl) (pe_methX (dvs:=[]) M_Tide_mark (by simp) T.cl_Tide (hr.mono (by decide)) passN (pv 0) (pa_cons (pe_ix (ix_tupK K rfl) (pv 1) pe_int (fun _ _=>rfl)) pa_nil))) (pss_cons (ps_fld (pv 0) (pe_ix (ix_tupK K rfl) (pv 1) pe_int (fun _ _=>rfl)) rfl) (pss_cons (ps_fld (pv 0) (pv 2) rfl) (pss_cons (ps_fld (pv 0) (pe_lc ["one"] [("reached", 2)] rfl (by with_unfolding_all rfl) (by decide +kernel) rfl (by decide +kernel) (by exact ⟨rfl,True.intro⟩) (by with_unfolding_all rfl) ⟨⟨rfl,rfl,rfl⟩,True.intro⟩ (pi_listK K rfl (pe_fld (pv 0) rfl)) (fun _ _ _=>(pg_name (i:=0) (show (["one", "reached"]:List Str).Nodup from by decide +kernel) rfl (by first|left;rfl|right;rfl))) (fun _ _ _=>(pifs_one (pt_val (pe_callX D_under (hr.mono (by decide)) rfl passN (pa_cons (pv 1) (pa_cons (pe_ix (ix_tupK K rfl) (pv 0) pe_int (fun _ _=>rfl)) pa_nil)))))) (fun _ _ _=>(pv 0))) rfl) (pss_cons (ps_set (i:=3) sc_Tide_come.nd rfl (by first|left;rfl|right;rfl) (pe_callX D_greater (hr.mono (by decide)) rfl passN (pa_cons (pv 2) (pa_cons (pe_dget2 (hu_of hr) (pe_fld (pv 0) rfl) (pe_ix (ix_tupK K rfl) (pv 1) pe_int (fun _ _=>rfl)) (pv 2) ⟨rfl,rfl,rfl,rfl⟩) pa_nil)))) (pss_cons (ps_set (i:=4) sc_Tide_come.nd rfl (by first|left;rfl|right;rfl) (pe_callX D_plus (hr.mono (by decide)) rfl passN (pa_cons (pv 3) (pa_cons (pe_callX D_ratio (hr.mono (by decide)) rfl passN (pa_cons (pe_ix (ix_tupK K rfl) (pv 1) pe_int (fun _ _=>rfl)) (pa_cons (pe_ix (ix_tupK K rfl) (pv 1) pe_int (fun _ _=>rfl)) pa_nil))) pa_nil)))) (pss_cons (ps_expr (pe_bm PySem.F.plainAttrs_list PySem.F.slot_list_append PySem.F.type_list_append mt_append (pe_fld (pv 0) rfl) (pa_cons (pe_tup (pa_cons (pv 3) (pa_cons (pv 4) (pa_cons (pe_ix (ix_tupK K rfl) (pv 1) pe_int (fun _ _=>rfl)) pa_nil)))) pa_nil))) (pss_cons (ps_dput (hu_of hr) (pe_fld (pv 0) rfl) (pe_ix (ix_tupK K rfl) (pv 1) pe_int (fun _ _=>rfl)) (pv 4) rfl) (pss_one (ps_ret (pe_tup (pa_cons (pv 3) (pa_cons (pv 4) pa_nil))))))))))))),?_⟩
    show tSeq _ _ _ [some (.ref p),some (.ref pc),none,none,none] H
    have mk:=Sw.markAt_ok ok hlt
    obtain ⟨dx,fs,pr,pu,ps,kvs,hp,ft,hr',hu,tg,he,ea,lk,lu⟩:=id td.ex
    have hp0:=hp
    have he0:=he
    refine seq_step fun R hR=>?_
    walk_at "rd"
    refine meth_at hp (ft.no _ (by decide +kernel) (by decide +kernel) (by decide +kernel) (by decide +kernel)) ?_
    refine ixT_at (.of hpc) rfl ?_
    walk_at "rd"
    refine ⟨p,t,lat,re,us,D,B,rfl,td.m,ok,hlt,t1,fun y H1 s1 hy=>hR _ _ ?_⟩
    generalize Sw.markAt us lat re t=rv at mk hy k
    obtain ⟨⟨S,S1,S2,gS⟩,m1,m2⟩:=mk
    have hpc:=s1 _ _ hpc
    have hp:=s1 _ _ hp
    have hu:=s1 _ _ hu
    have tg:=tags_same tg s1
    have he:=s1 _ _ he
    have ea:=ea.keep fun _ _ q=>s1 _ _ q
    have kp:Kept p pe H H1:=s1.kept
    clear s1 hr'
    refine seq_step fun R hR=>?_
    walk_at "rd"
    refine ixT_at (.of hpc) rfl (set_at hp T.cl_Tide T.na_Tide_latest (by have:=ft.len; omega) (hR _ _ ?_))
    refine seq_step fun R hR=>?_
    walk_at "rd"
    have ft1:=ft.put_lat (l':=t)
    refine set_at upd_same T.cl_Tide T.na_Tide_reached (by have:=ft1.len; omega) (hR _ _ ?_)
    rw [upd_upd]
    have ft2:=ft1.put_rch (r':=y)
    have nP:∀ b xs,H1 b=some (.tup xs)→upd H1 p (.ins c_Tide dx (putF "reached" (.ref y) (putF "latest" (.int t) fs))) b=some (.tup xs):=fun b xs e=>by
      rw [upd_ne (ne_of e hp (by intro z; cases z))]; exact e
    have hpc:=nP _ _ hpc
    have hy:=nP _ _ hy
    have tg:=tags_keep tg nP
    have ea:=ea.keep nP
    have npu:pu≠p:=ne_of hu hp (by intro z; cases z)
    have npe:pe≠p:=ne_of he hp (by intro z; cases z)
    have hu:upd H1 p (.ins c_Tide dx (putF "reached" (.ref y) (putF "latest" (.int t) fs))) pu=some (.lst (ps.map V.ref)):=by rw [upd_ne npu]; exact hu
    have he:upd H1 p (.ins c_Tide dx (putF "reached" (.ref y) (putF "latest" (.int t) fs))) pe=some (.dK kvs):=by rw [upd_ne npe]; exact he
    have kp:Kept p pe H (upd H1 p (.ins c_Tide dx (putF "reached" (.ref y) (putF "latest" (.int t) fs)))):=fun b o n1 n2 e=>by rw [upd_ne n1]; exact kp b o n1 n2 e
    have hp:upd H1 p (.ins c_Tide dx (putF "reached" (.ref y) (putF "latest" (.int t) fs))) p=some (.ins c_Tide dx (putF "reached" (.ref y) (putF "latest" (.int t) fs))):=upd_same
    generalize upd H1 p (.ins c_Tide dx (putF "reached" (.ref y) (putF "latest" (.int t) fs)))=H2 at hpc hy tg ea hu he kp hp ⊢
    clear nP
    have gb:=ok.gb
    have zrv:Sw.SzQ 1700 rv:=by
      have B1:=gb.B1
      have B0:=gb.B0
      have re0:=ok.re0
      have lu':=ok.len
      exact (gS.sz (M:=B) (a:=1570) (b:=70) (Int.mul_pos gb.D0 (by omega)) (gb.Dz.mul (Sw.Sz.r18 (by omega) (by omega))) (Sw.Sz.r18 (by omega) (by omega)) (by have:(0:Rat)≤(B:Rat):=(by grind); grind) m2 (by decide)).mono (by decide)
    refine seq_step fun R hR=>?_
    walk_at "rd"
    refine fldR_at hp T.cl_Tide T.na_Tide_unflowed ft2.unf ?_
    walk_at "rd"
    refine ⟨⟨_,.of hu⟩,fun Dl hDl=>?_⟩
    show CompG _ _ _ _ Dl [none,some (.ref y)] _ _
    have len':=tags_len tg
    have nD0:∀ b o,H b=some o→b≠p→b≠pe→b≠Dl:=fun b o e n1 n2=>ne_of_none (kp b o n1 n2 e) hDl
    refine comp_walk (xs:=ps.map V.ref) (fun i τ H'=>Same H2 H'∧∃ v rs,τ = [v,some (.ref y)]∧H' Dl=some (.lst (rs.map V.ref))∧TagsAt H' rs ((us.take i).filter fun u=>decide (rv<u.2.1))∧rs.length≤i) ⟨same_new hDl,none,[],rfl,upd_same,.nil,Nat.le_refl _⟩ (fun i τ H' _ q=>.of (q.1 _ _ hu)) ?_ ?_
    · rintro i x τ H3 hx ⟨sm,v,rs,rfl,hrs,tr,lr⟩
      obtain ⟨pp,hpp,rfl⟩:∃ p,ps[i]? = some p∧V.ref p=x:=by
        rw [List.getElem?_map] at hx
        cases e:ps[i]? with
        | none=>rw [e] at hx; cases hx
        | some z=>rw [e] at hx; exact ⟨z,rfl,Option.some.inj hx⟩
      have hi:i<ps.length:=(List.getElem?_eq_some_iff.mp hpp).1
      obtain ⟨u,hu',tu⟩:=paired_get tg hpp
      obtain ⟨zb,ze⟩:=ok.zu u (List.mem_of_getElem? hu')
      have tu1:=tu.keep fun _ _ q=>sm _ _ q
      obtain ⟨pb,pe',h1,h2,h3⟩:=id tu1
      have et:(us.take (i+1)).filter (fun u=>decide (rv<u.2.1))=(us.take i).filter (fun u=>decide (rv<u.2.1))++(if decide (rv<u.2.1)=true then [u] else []):=by
        rw [take_succ_of hu',List.filter_append]
        congr 1
        rw [List.filter_cons]
        rfl
      have kt:∀ b xs,H3 b=some (.tup xs)→upd H3 Dl (.lst (rs.map V.ref++[.ref pp])) b=some (.tup xs):=fun b xs e=>by
        rw [upd_ne (ne_of e hrs (by intro z; cases z))]; exact e
      walk_at "rd"
      refine ixT_at (.of h1) rfl ⟨y,pe',rv,u.2.1,rfl,sm _ _ hy,h3,zrv.mono (by decide),ze,?_⟩
      walk_at "rd"
      refine ite2 (fun h4=>?_) fun h4=>?_
      · refine ⟨_,hrs,line_lt (by rw [List.length_map]; have:=ok.len; omega),fun b o e=>?_,rs++[pp],by rw [upd_same]; simp,?_,by simp; omega⟩
        · rw [upd_ne (ne_of_none e hDl)]; exact sm _ _ e
        · rw [et,if_pos (decide_eq_true h4)]
          exact paired_snoc (tu1.keep kt) (tags_keep tr kt)
      · refine ⟨sm,rs,hrs,?_,by omega⟩
        rw [et,if_neg (by simp [h4]),List.append_nil]
        exact tr
    · rintro τ H3 ⟨sm,v,rs,rfl,hrs,tr,lr⟩
      rw [List.take_of_length_le (by rw [List.length_map,len']; exact Nat.le_refl _)] at tr
      have hp:=sm _ _ hp
      have hpc:=sm _ _ hpc
      have hy:=sm _ _ hy
      have he:=sm _ _ he
      have ea:=ea.keep fun _ _ q=>sm _ _ q
      have kp:=kp.trans sm.kept
      have nDp:Dl≠p:=ne_of hrs hp (by intro z; cases z)
      have nDe:Dl≠pe:=ne_of hrs he (by intro z; cases z)
      clear sm
      refine set_at hp T.cl_Tide T.na_Tide_unflowed (by have:=ft2.len; omega) (hR _ _ ?_)
      have ft3:=ft2.put_unf (u':=Dl)
      have nP:∀ b xs,H3 b=some (.tup xs)→upd H3 p (.ins c_Tide dx (putF "unflowed" (.ref Dl) (putF "reached" (.ref y) (putF "latest" (.int t) fs)))) b=some (.tup xs):=fun b xs e=>by
        rw [upd_ne (ne_of e hp (by intro z; cases z))]; exact e
      have hpc:=nP _ _ hpc
      have hy:=nP _ _ hy
      have tr:=tags_keep tr nP
      have ea:=ea.keep nP
      have hrs:upd H3 p (.ins c_Tide dx (putF "unflowed" (.ref Dl) (putF "reached" (.ref y) (putF "latest" (.int t) fs)))) Dl=some (.lst (rs.map V.ref)):=by rw [upd_ne nDp]; exact hrs
      have he:upd H3 p (.ins c_Tide dx (putF "unflowed" (.ref Dl) (putF "reached" (.ref y) (putF "latest" (.int t) fs)))) pe=some (.dK kvs):=by rw [upd_ne npe]; exact he
      have kp:Kept p pe H (upd H3 p (.ins c_Tide dx (putF "unflowed" (.ref Dl) (putF "reached" (.ref y) (putF "latest" (.int t) fs))))):=fun b o n1 n2 e=>by rw [upd_ne n1]; exact kp b o n1 n2 e
      have hp:upd H3 p (.ins c_Tide dx (putF "unflowed" (.ref Dl) (putF "reached" (.ref y) (putF "latest" (.int t) fs)))) p=some (.ins c_Tide dx (putF "unflowed" (.ref Dl) (putF "reached" (.ref y) (putF "latest" (.int t) fs)))):=upd_same
      generalize upd H3 p (.ins c_Tide dx (putF "unflowed" (.ref Dl) (putF "reached" (.ref y) (putF "latest" (.int t) fs))))=H4 at hpc hy tr ea hrs he kp hp ⊢
      clear nP
      refine seq_step fun R hR=>?_
      walk_at "rd"
      refine fldR_at hp T.cl_Tide T.na_Tide_last_ends ft3.lst ?_
      walk_at "rd"
      refine ⟨.inl ⟨kvs,.inl he⟩,ixT_at (.of hpc) rfl ⟨_,DGet.k (k:=Sum.inl who) he,?_⟩⟩
      have D0:=gb.D0
      have dsn:D*S≠0:=Int.mul_ne_zero (by omega) (by omega)
      have re0:=ok.re0
      obtain ⟨qe0,ev,hqe0,hev,gev,ev0,evB,zev⟩:∃ q e,(valV kvs (Sum.inl who:Key)).getD (.ref y) = .ref q∧H4 q=some (.tup (fq e))∧Sw.Grd (D*S) e∧0≤e∧e≤(B:Rat)∧(en who).getD rv=e:=by
        rcases ea who with ⟨h1,h2⟩ | ⟨e,q,h1,h2,h3⟩
        · rw [h1,h2]
          exact ⟨y,rv,rfl,hy,gS,by grind,m2,rfl⟩
        · rw [h1,h2]
          have eo:=eok who e h1
          exact ⟨q,e,rfl,h3,eo.1.more (by omega) (by omega),eo.2.1,eo.2.2,rfl⟩
      rw [hqe0]
      have zz:∀ q:Rat,Sw.Grd (D*S) q→0≤q→q≤(B:Rat)→Sw.SzQ 1700 q:=fun q g q0 q1=>by
        have B1:=gb.B1
        have B0:=gb.B0
        have lu':=ok.len
        exact (g.sz (M:=B) (a:=1570) (b:=70) (Int.mul_pos gb.D0 (by omega)) (gb.Dz.mul (Sw.Sz.r18 (by omega) (by omega))) (Sw.Sz.r18 (by omega) (by omega)) (by have:(0:Rat)≤(B:Rat):=(by grind); grind) q1 (by decide)).mono (by decide)
      have zev':=zz ev gev ev0 evB
      have eb:Sw.begOn en rv who=max rv ev:=by unfold Sw.begOn; rw [zev]
      rw [eb] at k
      refine ⟨y,qe0,rv,ev,rfl,hy,hev,zrv.mono (by decide),zev'.mono (by decide),fun qb hqb=>hR _ _ ?_⟩
      have zb:Sw.SzQ 1700 (max rv ev):=by
        rw [Rat.max_def]; split
        · exact zev'
        · exact zrv
      generalize max rv ev=bv at zb k hqb ⊢
      have n1':=same_new (o:=.tup (fq bv)) hqb
      have hb:upd H4 qb (.tup (fq bv)) qb=some (.tup (fq bv)):=upd_same
      have hpc:=n1' _ _ hpc
      have hy:=n1' _ _ hy
      have tr:=tags_same tr n1'
      have ea:=ea.keep fun _ _ q=>n1' _ _ q
      have hrs:=n1' _ _ hrs
      have he:=n1' _ _ he
      have hp:=n1' _ _ hp
      have kp:=kp.trans n1'.kept
      generalize upd H4 qb (.tup (fq bv))=H5 at hb hpc hy tr ea hrs he hp kp ⊢
      clear n1' hqb hev hqe0
      refine seq_step fun R hR=>?_
      walk_at "rd"
      refine ixT_at (.of hpc) rfl (ixT_at (.of hpc) rfl ?_)
      have zsh:Sw.Sz 70 sh:=Sw.Sz.r18 (by omega) (by omega)
      have zlen:Sw.Sz 70 len:=Sw.Sz.r18 (by omega) (by omega)
      refine ⟨len,sh,70,rfl,by decide,zsh,fun _ q2 f2'=>?_,fun z=>absurd z (by omega)⟩
      have n2':=same_new (o:=.tup (fq ((len:Rat) / (sh:Rat)))) f2'
      refine ⟨qb,q2,bv,(len:Rat) / (sh:Rat),1700,rfl,n2' _ _ hb,upd_same,by decide,zb,(Sw.SzQ.of (by omega) rfl zlen zsh).mono (by decide),fun qe hqe=>hR _ _ ?_⟩
      have n3':=same_new (o:=.tup (fq (bv+(len:Rat) / (sh:Rat)))) hqe
      have nn:=n2'.trans n3'
      have hE:upd (upd H5 q2 (.tup (fq ((len:Rat) / (sh:Rat))))) qe (.tup (fq (bv+(len:Rat) / (sh:Rat)))) qe=some (.tup (fq (bv+(len:Rat) / (sh:Rat)))):=upd_same
      generalize upd (upd H5 q2 (.tup (fq ((len:Rat) / (sh:Rat))))) qe (.tup (fq (bv+(len:Rat) / (sh:Rat))))=H6 at nn hE ⊢
      have hb:=nn _ _ hb
      have hpc:=nn _ _ hpc
      have hy:=nn _ _ hy
      have tr:=tags_same tr nn
      have ea:=ea.keep fun _ _ q=>nn _ _ q
      have hrs:=nn _ _ hrs
      have he:=nn _ _ he
      have hp:=nn _ _ hp
      have kp:=kp.trans nn.kept
      clear nn n2' n3' f2' hqe
      refine seq_step fun R hR=>?_
      walk_at "rd"
      refine fldR_at hp T.cl_Tide T.na_Tide_unflowed ft3.unf ?_
      refine ⟨.inl ⟨rfl,_,.of hrs⟩,?_⟩
      walk_at "rd"
      refine ixT_at (.of hpc) rfl fun tp htp=>?_
      have n4':=same_new (o:=.tup [.ref qb,.ref qe,.int sh]) htp
      have hT:TagAt (upd H6 tp (.tup [.ref qb,.ref qe,.int sh])) tp (bv,bv+(len:Rat) / (sh:Rat),sh):=⟨qb,qe,upd_same,n4' _ _ hb,n4' _ _ hE⟩
      have hb:=n4' _ _ hb
      have hE:=n4' _ _ hE
      have hpc:=n4' _ _ hpc
      have hy:=n4' _ _ hy
      have tr:=tags_same tr n4'
      have ea:=ea.keep fun _ _ q=>n4' _ _ q
      have hrs:=n4' _ _ hrs
      have he:=n4' _ _ he
      have hp:=n4' _ _ hp
      have kp:=kp.trans n4'.kept
      generalize upd H6 tp (.tup [.ref qb,.ref qe,.int sh])=H7 at hT hb hE hpc hy tr ea hrs he hp kp ⊢
      clear n4' htp
      have lrs:rs.length≤100:=by rw [List.length_map] at lr; have:=ok.len; omega
      refine ⟨Dl,_,_,rfl,rfl,hrs,line_lt (by rw [List.length_map]; omega),hR _ _ ?_⟩
      have nT:∀ b xs,H7 b=some (.tup xs)→upd H7 Dl (.lst (rs.map V.ref++[.ref tp])) b=some (.tup xs):=fun b xs e=>by
        rw [upd_ne (ne_of e hrs (by intro z; cases z))]; exact e
      have hb:=nT _ _ hb
      have hE:=nT _ _ hE
      have hpc:=nT _ _ hpc
      have hy:=nT _ _ hy
      have tr:TagsAt (upd H7 Dl (.lst (rs.map V.ref++[.ref tp]))) (rs++[tp]) (Sw.usOn us rv bv len sh):=paired_snoc (hT.keep nT) (tags_keep tr nT)
      have ea:=ea.keep nT
      have he:upd H7 Dl (.lst (rs.map V.ref++[.ref tp])) pe=some (.dK kvs):=by rw [upd_ne (Ne.symm nDe)]; exact he
      have hp:upd H7 Dl (.lst (rs.map V.ref++[.ref tp])) p=some (.ins c_Tide dx (putF "unflowed" (.ref Dl) (putF "reached" (.ref y) (putF "latest" (.int t) fs)))):=by rw [upd_ne (Ne.symm nDp)]; exact hp
      have kp:Kept p pe H (upd H7 Dl (.lst (rs.map V.ref++[.ref tp]))):=fun b o n1 n2 e=>by rw [upd_ne (nD0 b o e n1 n2)]; exact kp b o n1 n2 e
      have hrs:upd H7 Dl (.lst (rs.map V.ref++[.ref tp])) Dl=some (.lst ((rs++[tp]).map V.ref)):=by rw [upd_same]; simp
      generalize upd H7 Dl (.lst (rs.map V.ref++[.ref tp]))=H8 at hb hE hpc hy tr ea hrs he hp kp ⊢
      clear nT hT
      refine seq_step fun R hR=>?_
      walk_at "rd"
      refine fldR_at hp T.cl_Tide T.na_Tide_last_ends ft3.lst (ixT_at (.of hpc) rfl ⟨pe,rfl,_,DPut.k (k:=Sum.inl who) he (Nat.lt_of_le_of_lt lk (Nat.lt_of_le_of_lt hm (by decide))),hR _ _ ?_⟩)
      have nT:∀ b xs,H8 b=some (.tup xs)→upd H8 pe (.dK (putK kvs (Sum.inl who) (.ref qe))) b=some (.tup xs):=fun b xs e=>by
        rw [upd_ne (ne_of e he (by intro z; cases z))]; exact e
      have ea2:EnAt (upd H8 pe (.dK (putK kvs (Sum.inl who) (.ref qe)))) (putK kvs (Sum.inl who) (.ref qe)) (setE en who (bv+(len:Rat) / (sh:Rat))):=(ea.put hE).keep nT
      have hb:=nT _ _ hb
      have hE:=nT _ _ hE
      have hy:=nT _ _ hy
      have tr:=tags_keep tr nT
      have hp:upd H8 pe (.dK (putK kvs (Sum.inl who) (.ref qe))) p=some (.ins c_Tide dx (putF "unflowed" (.ref Dl) (putF "reached" (.ref y) (putF "latest" (.int t) fs)))):=by rw [upd_ne (Ne.symm npe)]; exact hp
      have hrs:upd H8 pe (.dK (putK kvs (Sum.inl who) (.ref qe))) Dl=some (.lst ((rs++[tp]).map V.ref)):=by rw [upd_ne nDe]; exact hrs
      have kp:Kept p pe H (upd H8 pe (.dK (putK kvs (Sum.inl who) (.ref qe)))):=fun b o n1 n2 e=>by rw [upd_ne n2]; exact kp b o n1 n2 e
      have he:upd H8 pe (.dK (putK kvs (Sum.inl who) (.ref qe))) pe=some (.dK (putK kvs (Sum.inl who) (.ref qe))):=upd_same
      generalize upd H8 pe (.dK (putK kvs (Sum.inl who) (.ref qe)))=H9 at ea2 hb hE hy tr hp hrs kp he ⊢
      walk_at "rd"
      intro q hq
      have n9:=same_new (o:=.tup [.ref qb,.ref qe]) hq
      have lput:=length_putK kvs (Sum.inl who:Key) (.ref qe)
      have lus:(Sw.usOn us rv bv len sh).length≤m+1:=by
        unfold Sw.usOn
        have:=List.length_filter_le (fun u:Sw.T3=>decide (rv<u.2.1)) us
        rw [List.length_append]
        simp only [List.length_cons,List.length_nil]
        omega
      exact k q qb qe _ (kp.trans n9.kept) ⟨dx,_,y,Dl,rs++[tp],_,n9 _ _ hp,ft3,n9 _ _ hy,n9 _ _ hrs,tags_same tr n9,n9 _ _ he,ea2.keep fun _ _ z=>n9 _ _ z,by omega,lus⟩ upd_same (n9 _ _ hb) (n9 _ _ hE) fun l xs e dx' fs' pu' h1 h2=>by
        rw [n9 _ _ hp] at h1
        cases h1
        rw [ft3.unf] at h2
        cases h2
        exact Ne.symm (nD0 l _ e (ne_of e hp0 (by intro z; cases z)) (ne_of e he0 (by intro z; cases z)))
theorem Row.kept {H H':Hp} {l:Addr} {ps:List Addr} {qs:List Q4} {p d C dx:Addr} {fs:List (Str×V)} {kvs:List (Key×V)} (R:Row H l ps qs) (k:Kept p d H H') (hp:H p=some (.ins C dx fs)) (hd:H d=some (.dK kvs)):Row H' l ps qs :=
  ⟨k _ _ (ne_of R.hl hp (by intro z; cases z)) (ne_of R.hl hd (by intro z; cases z)) R.hl,R.r.keep fun p z e=>k _ _ (ne_of e hp (by intro w; cases w)) (ne_of e hd (by intro w; cases w)) e⟩
theorem Td.ob {C:Addr} {H:Hp} {p pe:Addr} {lat:Int} {re:Rat} {us:List Sw.T3} {en:Int→Option Rat} {m:Nat} (h:Td C H p pe lat re us en m):∃ dx fs kvs pr pu,H p=some (.ins C dx fs)∧H pe=some (.dK kvs)∧FT fs lat pr pu pe:=by
  obtain ⟨dx,fs,pr,pu,ps,kvs,h1,h2,h3,h4,h5,h6,_⟩:=h.ex
  exact ⟨dx,fs,kvs,pr,pu,h1,h6,h2⟩
def spTagsOf:Sp:=fun vs H Q _=>∃ n M a c l ps qs,vs = [.ref l]∧Row H l ps qs∧Sw.Fit n M a c∧qs.length≤n∧(∀ q∈qs,Sw.PcOk M q)∧qs.Pairwise (fun a b=>a.1≤b.1)∧∀ tl tp H',Same H H'→TgL H' tl tp (Sw.Ti.nil.tags qs)→Q (.ref tl) H'
theorem lat_le {qs:List Q4}:∀ {s:Sw.Ti} {i:Nat} {q:Q4},(∀ q∈qs,s.lat≤q.1)→qs.Pairwise (fun a b=>a.1≤b.1)→qs[i]? = some q→(s.after (qs.take i)).lat≤q.1:=by
  induction qs with
  | nil=>intro s i q _ _ e; simp at e
  | cons x r ih =>
    intro s i q h0 hp e
    obtain ⟨h1,h2⟩:=List.pairwise_cons.mp hp
    cases i with
    | zero =>
      have:x=q:=by simpa using e
      subst this
      exact h0 x (by simp)
    | succ j =>
      have e:r[j]? = some q:=by simpa using e
      exact ih (s:=s.come x) (fun y hy=>h1 y hy) h2 e
theorem d_tags_of (T:Txt K mg c_Tide):Def P w K mg base (CXX P w) 6 "tags_of" ["row"] spTagsOf:=by
  have K_Tide:=k_Tide (P:=P) (w:=w) (base:=base) T
  have M_Tide_come:=m_Tide_come (P:=P) (w:=w) (base:=base) T
  refine T.src_tags_of.okN (k:=5) sc_tags_of (fun vs H Q E h=>?_) (fun f cdv A outer s H vs Q E hr h=>?_)
  · obtain ⟨n,M,a,c,l,ps,qs,rfl,_⟩:=h
    rfl
  · obtain ⟨n,M,a,c,l,ps,qs,rfl,R0,F,hn,hq,hp,k⟩:=h
    refine ⟨_,(pss_cons (ps_set (i:=1) sc_tags_of.nd rfl (by first|left;rfl|right;rfl) (pe_makeX0 (dvs:=[]) K_Tide (by simp) (hr.mono (by decide)) passN rfl T.mg_Tide)) (pss_one (ps_ret (pe_lc ["piece"] [("tide", 1)] rfl (by with_unfolding_all rfl) (by decide +kernel) rfl (by decide +kernel) (by exact ⟨rfl,True.intro⟩) (by with_unfolding_all rfl) ⟨⟨rfl,rfl,rfl⟩,True.intro⟩ (pi_listK K rfl (pv 0)) (fun _ _ _=>(pg_name (i:=0) (show (["piece", "tide"]:List Str).Nodup from by decide +kernel) rfl (by first|left;rfl|right;rfl))) (fun _ _ _=>pifs_nil) (fun _ _ _=>(pe_methX (dvs:=[]) M_Tide_come (by simp) T.cl_Tide (hr.mono (by decide)) passN (pv 1) (pa_cons (pv 0) pa_nil))))))),?_⟩
    show tSeq _ _ _ [some (.ref l),none] H
    have len:=R0.r.len
    have n6:=F.n1
    refine seq_step fun R hR=>?_
    walk_at "rd"
    intro x dx hx hdx ne
    refine ⟨x,dx,rfl,upd_same,fun pe H1 bt hpe td=>⟨rfl,hR _ _ ?_⟩⟩
    have sm0:Same H H1:=bt.same (same_make hx hdx) hx
    have npe:H pe=none:=(same_make hx hdx).free hpe
    clear bt hpe hdx
    walk_at "rd"
    refine ⟨⟨_,.of (R0.same sm0).hl⟩,fun Dl hDl=>?_⟩
    show CompG _ _ _ _ Dl [none,some (.ref x)] _ _
    have nDl:H Dl=none:=sm0.free hDl
    refine comp_walk (xs:=ps.map V.ref) (fun i τ H'=>∃ v tp D,τ = [v,some (.ref x)]∧Same H H'∧Td c_Tide H' x pe (Sw.Ti.nil.after (qs.take i)).lat (Sw.Ti.nil.after (qs.take i)).re (Sw.Ti.nil.after (qs.take i)).us (Sw.Ti.nil.after (qs.take i)).en i∧Sw.RunOk n M c (Sw.Ti.nil.after (qs.take i)) i D∧TgL H' Dl tp (Sw.Ti.nil.tags (qs.take i))∧tp.length=i) ⟨none,[],1,rfl,sm0.trans (same_new hDl),td.same (same_new hDl),Sw.RunOk.nil,⟨upd_same,.nil⟩,rfl⟩ (fun i τ H' _ ⟨_,_,_,_,sm,_⟩=>.of (sm _ _ R0.hl)) ?_ ?_
    · rintro i y τ H2 hy ⟨v,tp,D,rfl,sm,td,ro,tg,lt⟩
      obtain ⟨pp,hpp,rfl⟩:∃ p,ps[i]? = some p∧V.ref p=y:=by
        rw [List.getElem?_map] at hy
        cases e:ps[i]? with
        | none=>rw [e] at hy; cases hy
        | some z=>rw [e] at hy; exact ⟨z,rfl,Option.some.inj hy⟩
      have hi:i<ps.length:=(List.getElem?_eq_some_iff.mp hpp).1
      obtain ⟨q,hqi,hqp⟩:=R0.r.get hpp
      have po:=hq q (List.mem_of_getElem? hqi)
      obtain ⟨p0,p1,n1,n2,s1,s2⟩:=id po
      have M2:=F.M2
      have hl:=lat_le (s:=Sw.Ti.nil) (fun z hz=>(hq z hz).1) hp hqi
      obtain ⟨D',j,j0,eD,ro',_⟩:=ro.come F (by omega) po hl
      have et:qs.take (i+1)=qs.take i++[q]:=take_succ_of hqi
      rw [et,Sw.Ti.after_snoc,Sw.Ti.tags_snoc]
      generalize Sw.Ti.nil.after (qs.take i)=st at td ro ro' hl ⊢
      obtain ⟨dx2,fs2,kvs2,pr2,pu2,h1,h2,ft⟩:=Td.ob td
      walk_at "rd"
      refine meth_at h1 (ft.no _ (by decide +kernel) (by decide +kernel) (by decide +kernel) (by decide +kernel)) ?_
      refine ⟨x,pp,q.1,q.2.1,q.2.2.1,q.2.2.2,pe,st.lat,st.re,st.us,st.en,i,D,i*1000000,rfl,sm _ _ hqp,td,ro.ok,ro.eok,hl,by omega,n1,n2,s1,by omega,by omega,fun w qb qe H3 kp td' hw hb he nu=>?_⟩
      have sm3:Same H H3:=fun b o e=>kp b o (ne_of_none e hx) (ne_of_none e npe) (sm _ _ e)
      have hD3:H3 Dl=some (.lst (tp.map V.ref)):=kp _ _ (ne_of tg.hl h1 (by intro z; cases z)) (ne_of tg.hl h2 (by intro z; cases z)) tg.hl
      have kt:∀ b xs,H2 b=some (.tup xs)→upd H3 Dl (.lst (tp.map V.ref++[.ref w])) b=some (.tup xs):=fun b xs e=>by
        rw [upd_ne (ne_of e tg.hl (by intro z; cases z))]
        exact kp _ _ (ne_of e h1 (by intro z; cases z)) (ne_of e h2 (by intro z; cases z)) e
      have kt3:∀ b xs,H3 b=some (.tup xs)→upd H3 Dl (.lst (tp.map V.ref++[.ref w])) b=some (.tup xs):=fun b xs e=>by
        rw [upd_ne (ne_of e hD3 (by intro z; cases z))]; exact e
      refine ⟨_,hD3,line_lt (by rw [List.length_map]; omega),fun b o e=>?_,Td.list td' (nu _ _ tg.hl) hD3,⟨D',ro'⟩,tp++[w],⟨?_,paired_snoc ⟨qb,qe,kt3 _ _ hw,kt3 _ _ hb,kt3 _ _ he⟩ (Paired.mapP tg.r fun _ _ z=>z.keep kt)⟩,by rw [List.length_append]; simp [lt]⟩
      · rw [upd_ne (ne_of_none e nDl)]; exact sm3 _ _ e
      · rw [upd_same,List.map_append]; rfl
    · rintro τ H2 ⟨v,tp,D,rfl,sm,td,ro,tg,lt⟩
      rw [List.take_of_length_le (by rw [List.length_map]; omega)] at tg
      exact k _ _ _ sm tg
def spHeadsAt:Sp:=fun vs H Q _=>∃ l ps qs tl tp ts pm pk mo ma,vs = [.ref l,.ref tl,.ref pm,.ref pk]∧Row H l ps qs∧TgL H tl tp ts∧ts.length=qs.length∧qs.length≤60∧H pm=some (.tup (fq mo))∧H pk=some (.tup (fq ma))∧Sw.SzQ 5000 mo∧Sw.SzQ 5000 ma∧(∀ t∈ts,Sw.SzQ 5000 t.1∧Sw.SzQ 5000 t.2)∧(∀ q∈qs,0≤q.1∧q.1<100000000000000) ∧
  ∀ h H',Same H H'→H h=none→H' h=some (.lst ((Sw.hdP (fsOf qs ts) mo ma).map natI))→Q (.ref h) H'
theorem d_heads_at (T:Txt K mg c_Tide):Def P w K mg base (CXX P w) 2 "heads_at" ["row", "tags", "moment", "mark"] spHeadsAt:=by
  have D_under:=d_under (P:=P) (w:=w) (base:=base) T
  refine T.src_heads_at.okN (k:=1) sc_heads_at (fun vs H Q E h=>?_) (fun f cdv A outer s H vs Q E hr h=>?_)
  · obtain ⟨l,ps,qs,tl,tp,ts,pm,pk,mo,ma,rfl,_⟩:=h
    rfl
  · obtain ⟨l,ps,qs,tl,tp,ts,pm,pk,mo,ma,rfl,R0,TL,lt,lq,hm,hk,zm,zk,zt,zq,k⟩:=h
    refine ⟨_,(pss_cons (ps_set (i:=4) sc_heads_at.nd rfl (by first|left;rfl|right;rfl) (pe_lst pa_nil)) (pss_cons (ps_for PassesOwn.never rfl (pi_enumK K rfl rfl T.no_enumerate (pa_cons (pv 0) pa_nil)) (pg_tupK (n:=2) K rfl rfl (pgs_cons (pg_name (i:=5) sc_heads_at.nd rfl (by first|left;rfl|right;rfl)) (pgs_cons (pg_name (i:=6) sc_heads_at.nd rfl (by first|left;rfl|right;rfl)) pgs_nil))) (pss_cons (ps_set (i:=7) sc_heads_at.nd rfl (by first|left;rfl|right;rfl) (pe_ix (ix_tupK K rfl) (pe_ix (ix_listK K rfl) (pv 1) (pv 5) (fun _ _=>rfl)) pe_int (fun _ _=>rfl))) (pss_cons (ps_set (i:=8) sc_heads_at.nd rfl (by first|left;rfl|right;rfl) (pe_ix (ix_tupK K rfl) (pe_ix (ix_listK K rfl) (pv 1) (pv 5) (fun _ _=>rfl)) pe_int (fun _ _=>rfl))) (pss_cons (ps_set (i:=9) sc_heads_at.nd rfl (by first|left;rfl|right;rfl) (pe_not (pe_callX D_under (hr.mono (by decide)) rfl passN (pa_cons (pv 2) (pa_cons (pe_tup (pa_cons (pe_ix (ix_tupK K rfl) (pv 6) pe_int (fun _ _=>rfl)) (pa_cons pe_int pa_nil))) pa_nil))))) (pss_one (ps_if (PW.pt (pw_and (pt_val (pv 9)) (pw_and (pt_not (pt_val (pe_callX D_under (hr.mono (by decide)) rfl passN (pa_cons (pv 3) (pa_cons (pv 7) pa_nil))))) (pw_and1 (pt_val (pe_callX D_under (hr.mono (by decide)) rfl passN (pa_cons (pv 3) (pa_cons (pv 8) pa_nil)))))))) (pss_one (ps_expr (pe_bm PySem.F.plainAttrs_list PySem.F.slot_list_append PySem.F.type_list_append mt_append (pv 4) (pa_cons (pv 5) pa_nil)))) pss_nil)))))) (pss_one (ps_ret (pv 4))))),?_⟩
    show tSeq _ _ _ [some (.ref l),some (.ref tl),some (.ref pm),some (.ref pk),none,none,none,none,none,none] H
    have len:=R0.r.len
    refine seq_step fun R hR=>?_
    walk_at "rd"
    intro h hh
    refine hR _ _ ?_
    have s0:=same_new (o:=.lst []) hh
    have h0:upd H h (.lst []) h=some (.lst []):=upd_same
    generalize upd H h (.lst [])=H1 at s0 h0 ⊢
    refine seq_step fun R hR=>?_
    refine for_step fun Z hZ=>?_
    walk_at "rd"
    refine ⟨⟨_,.of (R0.same s0).hl⟩,hZ _ _ ?_⟩
    refine for_enum (xs:=ps.map V.ref) (fun i σ H'=>∃ v5 v6 v7 v8 v9,σ = [some (.ref l),some (.ref tl),some (.ref pm),some (.ref pk),some (.ref h),v5,v6,v7,v8,v9]∧Same H H'∧H' h=some (.lst (((List.range i).filter (hdI (fsOf qs ts) mo ma)).map natI))) ⟨none,none,none,none,none,rfl,s0,h0⟩ (fun i σ H' _ ⟨_,_,_,_,_,_,sm,_⟩=>.of (sm _ _ R0.hl)) ?_ ?_
    · rintro i x σ H2 p hx ⟨v5,v6,v7,v8,v9,rfl,sm,hL⟩ hp
      obtain ⟨pp,hpp,rfl⟩:∃ p,ps[i]? = some p∧V.ref p=x:=by simpa using hx
      obtain ⟨q,hq,hqp⟩:=R0.r.get hpp
      have hi:i<qs.length:=(List.getElem?_eq_some_iff.mp hq).1
      obtain ⟨t,hti⟩:∃ t,ts[i]? = some t:=⟨_,List.getElem?_eq_getElem (by omega)⟩
      obtain ⟨pt,hpt,pb,pe,g1,g2,g3⟩:=TL.item hti
      obtain ⟨z1,z2⟩:=zt t (List.mem_of_getElem? hti)
      obtain ⟨q0,q1⟩:=zq q (List.mem_of_getElem? hq)
      have eh:hdI (fsOf qs ts) mo ma i=Sw.hdB mo ma (q.1,t.1,t.2,q.2.2.2):=by unfold hdI; rw [fsOf_get hq hti]
      have er:=range_filter (hdI (fsOf qs ts) mo ma) i
      rw [eh] at er
      have sn:=same_new (o:=.tup [.int i,.ref pp]) hp
      have sm:=sm.trans sn
      have hL:=sn _ _ hL
      refine ⟨p,_,rfl,.of upd_same,rfl,?_⟩
      generalize upd H2 p (.tup [.int i,.ref pp])=H3 at sm hL ⊢
      clear sn
      walk_at "rd"
      refine seq_step fun R hR=>?_
      walk_at "rd"
      refine ixL_at (.of (sm _ _ TL.hl)) hpt (ixT_at (.of (sm _ _ g1)) rfl (hR _ _ ?_))
      refine seq_step fun R hR=>?_
      walk_at "rd"
      refine ixL_at (.of (sm _ _ TL.hl)) hpt (ixT_at (.of (sm _ _ g1)) rfl (hR _ _ ?_))
      refine seq_step fun R hR=>?_
      walk_at "rd"
      refine ixT_at (.of (sm _ _ hqp)) rfl ?_
      walk_at "rd"
      intro y hy
      have sn:=same_new (o:=.tup [.int q.1,.int 1]) hy
      have sm:=sm.trans sn
      have hL:=sn _ _ hL
      refine ⟨pm,y,mo,(q.1:Rat),rfl,sm _ _ hm,at_int (n:=q.1),zm,(szq_at q0 q1).mono (by decide),?_⟩
      generalize upd H3 y (.tup [.int q.1,.int 1])=H4 at sm hL ⊢
      clear sn
      walk_at "rd"
      refine hR _ _ ?_
      refine nx_step fun R hR=>?_
      have no:Sw.hdB mo ma (q.1,t.1,t.2,q.2.2.2)=false→R [some (.ref l),some (.ref tl),some (.ref pm),some (.ref pk),some (.ref h),some (.int i),some (.ref pp),some (.ref pb),some (.ref pe),some (.bl (!decide (mo<(q.1:Rat))))] H4:=fun e=>by
        refine hR _ _ ⟨⟨_,_,_,_,_,rfl⟩,sm,?_⟩
        rw [er,e,if_neg (by decide),List.append_nil]
        exact hL
      walk_at "rd"
      refine ite2 (fun c1=>no ?_) fun c1=>?_
      · cases e:Sw.hdB mo ma (q.1,t.1,t.2,q.2.2.2) with
        | false=>rfl
        | true =>
          obtain ⟨b,_⟩:=Sw.hdB_iff.mp e
          exact absurd c1 (by have:(q.1:Rat)≤mo:=b; grind)
      · refine ⟨pk,pb,ma,t.1,rfl,sm _ _ hk,sm _ _ g2,zk,z1,?_⟩
        walk_at "rd"
        refine ite2 (fun c2=>no ?_) fun c2=>?_
        · cases e:Sw.hdB mo ma (q.1,t.1,t.2,q.2.2.2) with
          | false=>rfl
          | true =>
            obtain ⟨_,b,_⟩:=Sw.hdB_iff.mp e
            exact absurd c2 (by have:t.1≤ma:=b; grind)
        refine ⟨pk,pe,ma,t.2,rfl,sm _ _ hk,sm _ _ g3,zk,z2,?_⟩
        walk_at "rd"
        refine ite2 (fun c3=>?_) fun c3=>no ?_
        · refine ⟨tyL_at hL,app_at hL ?_ (hR _ _ ⟨⟨_,_,_,_,_,rfl⟩,fun b o e=>?_,?_⟩)⟩
          · have:=List.length_filter_le (hdI (fsOf qs ts) mo ma) (List.range i)
            rw [List.length_range] at this
            rw [List.length_map]
            omega
          · rw [upd_ne (ne_of_none e hh)]; exact sm _ _ e
          · have e:Sw.hdB mo ma (q.1,t.1,t.2,q.2.2.2)=true:=Sw.hdB_iff.mpr ⟨by show (q.1:Rat)≤mo; grind,by show t.1≤ma; grind,c3⟩
            rw [upd_same,er,e,if_pos rfl,List.map_append]
            rfl
        · cases e:Sw.hdB mo ma (q.1,t.1,t.2,q.2.2.2) with
          | false=>rfl
          | true =>
            obtain ⟨_,_,b⟩:=Sw.hdB_iff.mp e
            exact absurd b c3
    · rintro σ H2 ⟨v5,v6,v7,v8,v9,rfl,sm,hL⟩
      refine hR _ _ ?_
      walk_at "rd"
      refine k h H2 sm hh ?_
      rw [hdP_eq,fsOf_len lt,← len,hL,List.length_map]
def spFirstEnd:Sp:=fun vs H Q _=>∃ tl tp ts hl,∃ hs:List Nat,∃ sh pm pk mo ma,∃ ef:Nat→Rat,vs = [.ref tl,.ref hl,.int sh,.ref pm,.ref pk]∧TgL H tl tp ts∧H hl=some (.lst (hs.map natI))∧hs≠[]∧hs.length≤60∧(∀ i∈hs,∃ t,ts[i]? = some t∧t.2=ef i∧Sw.SzQ 2400 (ef i))∧H pm=some (.tup (fq mo))∧H pk=some (.tup (fq ma)) ∧
  Sw.SzQ 2400 mo∧Sw.SzQ 2400 ma∧Sw.Sz 200 sh∧Sw.SzQ 2400 (Sw.minL (hs.map ef)-ma)∧Sw.SzQ 2400 ((Sw.minL (hs.map ef)-ma)*(sh:Rat)) ∧
  ∀ r H',Same H H'→H' r=some (.tup (fq (mo+(Sw.minL (hs.map ef)-ma)*(sh:Rat))))→Q (.ref r) H'
theorem d_first_end (T:Txt K mg c_Tide):Def P w K mg base (CXX P w) 4 "first_end" ["tags", "heads", "shares", "moment", "mark"] spFirstEnd:=by
  have D_least:=d_least (P:=P) (w:=w) (base:=base) T
  have D_minus:=d_minus (P:=P) (w:=w) (base:=base) T
  have D_times:=d_times (P:=P) (w:=w) (base:=base) T
  have D_plus:=d_plus (P:=P) (w:=w) (base:=base) T
  refine T.src_first_end.okN (k:=3) sc_first_end (fun vs H Q E h=>?_) (fun f cdv A outer s H vs Q E hr h=>?_)
  · obtain ⟨tl,tp,ts,hl,hs,sh,pm,pk,mo,ma,ef,rfl,_⟩:=h
    rfl
  · obtain ⟨tl,tp,ts,hl,hs,sh,pm,pk,mo,ma,ef,rfl,TL,hh,hne,hlen,he,hm,hk,zm,zk,zs,zw,zr,k⟩:=h
    refine ⟨_,(pss_cons (ps_set (i:=5) sc_first_end.nd rfl (by first|left;rfl|right;rfl) (pe_callX D_minus (hr.mono (by decide)) rfl passN (pa_cons (pe_callX D_least (hr.mono (by decide)) rfl passN (pa_cons (pe_lc ["place"] [("tags", 0)] rfl (by with_unfolding_all rfl) (by decide +kernel) rfl (by decide +kernel) (by exact ⟨rfl,True.intro⟩) (by with_unfolding_all rfl) ⟨⟨rfl,rfl,rfl⟩,True.intro⟩ (pi_listK K rfl (pv 1)) (fun _ _ _=>(pg_name (i:=0) (show (["place", "tags"]:List Str).Nodup from by decide +kernel) rfl (by first|left;rfl|right;rfl))) (fun _ _ _=>pifs_nil) (fun _ _ _=>(pe_ix (ix_tupK K rfl) (pe_ix (ix_listK K rfl) (pv 1) (pv 0) (fun _ _=>rfl)) pe_int (fun _ _=>rfl)))) pa_nil)) (pa_cons (pv 4) pa_nil)))) (pss_one (ps_ret (pe_callX D_plus (hr.mono (by decide)) rfl passN (pa_cons (pv 3) (pa_cons (pe_callX D_times (hr.mono (by decide)) rfl passN (pa_cons (pv 5) (pa_cons (pe_tup (pa_cons (pv 2) (pa_cons pe_int pa_nil))) pa_nil))) pa_nil)))))),?_⟩
    show tSeq _ _ _ [some (.ref tl),some (.ref hl),some (.int sh),some (.ref pm),some (.ref pk),none] H
    refine seq_step fun R hR=>?_
    walk_at "rd"
    refine ⟨⟨_,.of hh⟩,fun Dl hDl=>?_⟩
    refine comp_walk (xs:=hs.map natI) (fun i τ H'=>∃ v es,τ = [v,some (.ref tl)]∧Same H H'∧Lst fq H' Dl es ((hs.take i).map ef)∧es.length=i) ⟨none,[],rfl,same_new hDl,⟨upd_same,.nil⟩,rfl⟩ (fun i τ H' _ ⟨_,_,_,sm,_⟩=>.of (sm _ _ hh)) ?_ ?_
    · rintro i y τ H2 hy ⟨v,es,rfl,sm,L,le⟩
      obtain ⟨j,hj,rfl⟩:∃ j,hs[i]? = some j∧natI j=y:=by simpa using hy
      obtain ⟨t,ht,et,_⟩:=he j (List.mem_of_getElem? hj)
      obtain ⟨pt,hpt,pb,pe,g1,g2,g3⟩:=TL.item ht
      have hi:i<hs.length:=(List.getElem?_eq_some_iff.mp hj).1
      unfold natI
      walk_at "rd"
      simp only [tYes,if_true]
      refine ixL_at (.of (sm _ _ TL.hl)) hpt ?_
      refine ixT_at (.of (sm _ _ g1)) rfl ?_
      have kt:∀ b xs,H2 b=some (.tup xs)→upd H2 Dl (.lst (es.map V.ref++[.ref pe])) b=some (.tup xs):=fun b xs e=>by
        rw [upd_ne (ne_of e L.hl (by intro z; cases z))]; exact e
      refine ⟨_,L.hl,line_lt (by rw [List.length_map]; omega),fun b o e=>?_,es++[pe],⟨?_,?_⟩,by simp [le]⟩
      · rw [upd_ne (ne_of_none e hDl)]; exact sm _ _ e
      · rw [upd_same,List.map_append]; rfl
      · rw [take_succ_of hj,List.map_append]
        exact tupsF_snoc (kt _ _ (by rw [sm _ _ g3,et])) (tupsF_keep L.r kt)
    · rintro τ H2 ⟨v,es,rfl,sm,L,le⟩
      rw [List.take_of_length_le (by rw [List.length_map]; exact Nat.le_refl _)] at L
      refine ⟨Dl,es,hs.map ef,rfl,L,by simpa using hne,fun q hq=>?_,fun r H3 s3 hr3=>?_⟩
      · obtain ⟨i,hi,rfl⟩:=List.mem_map.mp hq
        obtain ⟨t,_,_,z⟩:=he i hi
        exact z.mono (by decide)
      have sm:=sm.trans s3
      have zl:Sw.SzQ 2400 (Sw.minL (hs.map ef)):=by
        obtain ⟨i,hi,e⟩:=List.mem_map.mp (Sw.minL_mem (l:=hs.map ef) (by simpa using hne))
        obtain ⟨t,_,_,z⟩:=he i hi
        rw [← e]; exact z
      refine ⟨r,pk,_,ma,2400,rfl,hr3,sm _ _ hk,by decide,zl,zk,fun w1 f1=>hR _ _ ?_⟩
      have n1:=same_new (o:=.tup (fq (Sw.minL (hs.map ef)-ma))) f1
      have sm:=sm.trans n1
      have h1:upd H3 w1 (.tup (fq (Sw.minL (hs.map ef)-ma))) w1=some (.tup (fq (Sw.minL (hs.map ef)-ma))):=upd_same
      generalize upd H3 w1 (.tup (fq (Sw.minL (hs.map ef)-ma)))=H4 at sm h1 ⊢
      walk_at "rd"
      intro w2 f2
      have n2:=same_new (o:=.tup [.int sh,.int 1]) f2
      refine ⟨w1,w2,_,(sh:Rat),2400,rfl,n2 _ _ h1,at_int (n:=sh),by decide,zw,(Sw.SzQ.int zs).mono (by decide),fun w3 f3=>?_⟩
      have n3:=same_new (o:=.tup (fq ((Sw.minL (hs.map ef)-ma)*(sh:Rat)))) f3
      refine ⟨pm,w3,mo,_,2400,rfl,n3 _ _ (n2 _ _ (sm _ _ hm)),upd_same,by decide,zm,zr,fun w4 f4=>?_⟩
      exact k w4 _ (((sm.trans n2).trans n3).trans (same_new f4)) upd_same
def shV (fs:List Sw.F4):V→Option V
  | .int i=>some (.int (Sw.shr fs i.toNat))
  | _=>none
theorem shV_map (fs:List Sw.F4) (hs:List Nat):(hs.map natI).filterMap (shV fs)=(hs.map (Sw.shr fs)).map V.int:=by
  induction hs with
  | nil=>rfl
  | cons i r ih =>
    rw [List.map_cons,List.filterMap_cons,List.map_cons,List.map_cons,← ih]
    rfl
theorem div1 (n:Int):((n:Int):Rat) / ((1:Int):Rat)=(n:Rat):=by
  have:((1:Int):Rat) = 1:=rfl
  rw [this]; grind
theorem f01:((0:Int):Rat) / ((1:Int):Rat) = 0:=by
  have z0:((0:Int):Rat) = 0:=rfl
  rw [z0]; grind
def spFlow:Sp:=fun vs H Q _=>∃ n M a c l ps qs,vs = [.ref l]∧Row H l ps qs∧Sw.Fit n M a c∧qs.length≤n∧(∀ q∈qs,Sw.PcOk M q)∧qs.Pairwise (fun a b=>a.1≤b.1)∧∀ sl sp H',Same H H'→ScL H' sl sp (Sw.flowF (fsOf qs (Sw.Ti.nil.tags qs)) (2*n+1) 0 0)→Q (.ref sl) H'
theorem d_flow (T:Txt K mg c_Tide):Def P w K mg base (CXX P w) 7 "flow" ["row"] spFlow:=by
  have D_tags_of:=d_tags_of (P:=P) (w:=w) (base:=base) T
  have D_heads_at:=d_heads_at (P:=P) (w:=w) (base:=base) T
  have D_first_end:=d_first_end (P:=P) (w:=w) (base:=base) T
  have D_ratio:=d_ratio (P:=P) (w:=w) (base:=base) T
  have D_under:=d_under (P:=P) (w:=w) (base:=base) T
  have D_least:=d_least (P:=P) (w:=w) (base:=base) T
  have D_plus:=d_plus (P:=P) (w:=w) (base:=base) T
  have D_minus:=d_minus (P:=P) (w:=w) (base:=base) T
  have D_over:=d_over (P:=P) (w:=w) (base:=base) T
  refine T.src_flow.okN (k:=6) sc_flow (fun vs H Q E h=>?_) (fun f cdv A outer s H vs Q E hr h=>?_)
  · obtain ⟨n,M,a,c,l,ps,qs,rfl,_⟩:=h
    rfl
  · obtain ⟨n,M,a,c,l,ps,qs,rfl,R0,F,hn,hq,hp,k⟩:=h
    refine ⟨_,(pss_cons (ps_set (i:=1) sc_flow.nd rfl (by first|left;rfl|right;rfl) (pe_callX D_tags_of (hr.mono (by decide)) rfl passN (pa_cons (pv 0) pa_nil))) (pss_cons (ps_set (i:=2) sc_flow.nd rfl (by first|left;rfl|right;rfl) (pe_lst pa_nil)) (pss_cons (ps_set (i:=3) sc_flow.nd rfl (by first|left;rfl|right;rfl) (pe_callX D_ratio (hr.mono (by decide)) rfl passN (pa_cons pe_int (pa_cons pe_int pa_nil)))) (pss_cons (ps_set (i:=4) sc_flow.nd rfl (by first|left;rfl|right;rfl) (pe_callX D_ratio (hr.mono (by decide)) rfl passN (pa_cons pe_int (pa_cons pe_int pa_nil)))) (pss_one (ps_while PassesOwn.never (pt_val pe_bl) (pss_cons (ps_set (i:=5) sc_flow.nd rfl (by first|left;rfl|right;rfl) (pe_callX D_heads_at (hr.mono (by decide)) rfl passN (pa_cons (pv 0) (pa_cons (pv 1) (pa_cons (pv 3) (pa_cons (pv 4) pa_nil)))))) (pss_cons (ps_set (i:=6) sc_flow.nd rfl (by first|left;rfl|right;rfl) (pe_callB (call_sumK K rfl rfl) rfl T.no_sum boot_sum (pa_cons (pe_lc ["place"] [("row", 0)] rfl (by with_unfolding_all rfl) (by decide +kernel) rfl (by decide +kernel) (by exact ⟨rfl,True.intro⟩) (by with_unfolding_all rfl) ⟨⟨rfl,rfl,rfl⟩,True.intro⟩ (pi_listK K rfl (pv 5)) (fun _ _ _=>(pg_name (i:=0) (show (["place", "row"]:List Str).Nodup from by decide +kernel) rfl (by first|left;rfl|right;rfl))) (fun _ _ _=>pifs_nil) (fun _ _ _=>(pe_ix (ix_tupK K rfl) (pe_ix (ix_listK K rfl) (pv 1) (pv 0) (fun _ _=>rfl)) pe_int (fun _ _=>rfl)))) pa_nil))) (pss_cons (ps_setL (i0:=7) ["piece"] [("moment", 3)] rfl (by with_unfolding_all rfl) (by decide +kernel) rfl (by decide +kernel) (by exact ⟨rfl,True.intro⟩) (by with_unfolding_all rfl) ⟨⟨rfl,rfl,rfl⟩,True.intro⟩ (pi_listK K rfl (pv 0)) (fun _ _ _=>(pg_name (i:=0) (show (["piece", "moment"]:List Str).Nodup from by decide +kernel) rfl (by first|left;rfl|right;rfl))) (fun _ _ _=>(pifs_one (pt_val (pe_callX D_under (hr.mono (by decide)) rfl passN (pa_cons (pv 1) (pa_cons (pe_tup (pa_cons (pe_ix (ix_tupK K rfl) (pv 0) pe_int (fun _ _=>rfl)) (pa_cons pe_int pa_nil))) pa_nil)))))) (fun _ _ _=>(pe_callX D_ratio (hr.mono (by decide)) rfl passN (pa_cons (pe_ix (ix_tupK K rfl) (pv 0) pe_int (fun _ _=>rfl)) (pa_cons pe_int pa_nil)))) (by with_unfolding_all rfl) sc_flow.nd rfl (by first|left;rfl|right;rfl)) (pss_cons (ps_if (pt_truthK K rfl (pv 5)) (pss_one (ps_expr (pe_bm PySem.F.plainAttrs_list PySem.F.slot_list_append PySem.F.type_list_append mt_append (pv 7) (pa_cons (pe_callX D_first_end (hr.mono (by decide)) rfl passN (pa_cons (pv 1) (pa_cons (pv 5) (pa_cons (pv 6) (pa_cons (pv 3) (pa_cons (pv 4) pa_nil)))))) pa_nil)))) pss_nil) (pss_cons (ps_if (pt_not (pt_truthK K rfl (pv 7))) (pss_one (ps_ret (pv 2))) pss_nil) (pss_cons (ps_set (i:=8) sc_flow.nd rfl (by first|left;rfl|right;rfl) (pe_callX D_least (hr.mono (by decide)) rfl passN (pa_cons (pv 7) pa_nil))) (pss_cons (ps_if (pt_truthK K rfl (pv 5)) (pss_cons (ps_expr (pe_bm PySem.F.plainAttrs_list PySem.F.slot_list_append PySem.F.type_list_append mt_append (pv 2) (pa_cons (pe_tup (pa_cons (pv 3) (pa_cons (pv 8) (pa_cons (pe_lc ["place"] [("shares", 6),("row", 0)] rfl (by with_unfolding_all rfl) (by decide +kernel) rfl (by decide +kernel) (by exact ⟨rfl,⟨rfl,True.intro⟩⟩) (by with_unfolding_all rfl) ⟨⟨rfl,rfl,rfl⟩,⟨⟨rfl,rfl,rfl⟩,True.intro⟩⟩ (pi_listK K rfl (pv 5)) (fun _ _ _=>(pg_name (i:=0) (show (["place", "shares", "row"]:List Str).Nodup from by decide +kernel) rfl (by first|left;rfl|right;rfl))) (fun _ _ _=>pifs_nil) (fun _ _ _=>(pe_tup (pa_cons (pv 0) (pa_cons (pe_callX D_ratio (hr.mono (by decide)) rfl passN (pa_cons (pe_ix (ix_tupK K rfl) (pe_ix (ix_listK K rfl) (pv 2) (pv 0) (fun _ _=>rfl)) pe_int (fun _ _=>rfl)) (pa_cons (pv 1) pa_nil))) pa_nil))))) pa_nil)))) pa_nil))) (pss_one (ps_set (i:=4) sc_flow.nd rfl (by first|left;rfl|right;rfl) (pe_callX D_plus (hr.mono (by decide)) rfl passN (pa_cons (pv 4) (pa_cons (pe_callX D_over (hr.mono (by decide)) rfl passN (pa_cons (pe_callX D_minus (hr.mono (by decide)) rfl passN (pa_cons (pv 8) (pa_cons (pv 3) pa_nil))) (pa_cons (pe_tup (pa_cons (pv 6) (pa_cons pe_int pa_nil))) pa_nil))) pa_nil)))))) pss_nil) (pss_one (ps_set (i:=3) sc_flow.nd rfl (by first|left;rfl|right;rfl) (pv 8)))))))))))))))),?_⟩
    show tSeq _ _ _ [some (.ref l),none,none,none,none,none,none,none,none] H
    obtain ⟨D,ok⟩:=Sw.fs_ok F hn hq hp
    have tln:(Sw.Ti.nil.tags qs).length=qs.length:=Sw.Ti.tags_len
    have n6:=F.n1
    refine seq_step fun R hR=>?_
    walk_at "rd"
    refine ⟨n,M,a,c,l,ps,qs,rfl,R0,F,hn,hq,hp,fun tl tp H1 s1 TL=>hR _ _ ?_⟩
    have R1:=R0.same s1
    generalize Sw.Ti.nil.tags qs=ts at ok tln TL k
    have fsl:(fsOf qs ts).length=qs.length:=fsOf_len tln
    have get:∀ i,i<qs.length→∃ q t,qs[i]? = some q∧ts[i]? = some t∧(fsOf qs ts)[i]? = some (q.1,t.1,t.2,q.2.2.2):=fun i hi=>by
      have h1:qs[i]? = some (qs[i]'hi):=List.getElem?_eq_getElem _
      have h2:ts[i]? = some (ts[i]'(by omega)):=List.getElem?_eq_getElem _
      exact ⟨_,_,h1,h2,fsOf_get h1 h2⟩
    have szt:∀ t∈ts,Sw.SzQ 5000 t.1∧Sw.SzQ 5000 t.2:=fun t ht=>by
      obtain ⟨i,hi⟩:=List.getElem?_of_mem ht
      obtain ⟨q,t',e1,e2,e3⟩:=get i (by have:=(List.getElem?_eq_some_iff.mp hi).1; omega)
      rw [hi] at e2
      cases e2
      have:=ok.szt (List.mem_of_getElem? e3)
      exact ⟨this.1.mono (by decide),this.2.mono (by decide)⟩
    have chq:∀ mo,Sw.chs (fsOf qs ts) mo=qs.filterMap fun q=>if mo<(q.1:Rat) then some (q.1:Rat) else none:=fun mo=>Sw.chs_of tln
    have hdi:∀ {mo ma:Rat} {i:Nat},i∈Sw.hdP (fsOf qs ts) mo ma→i<qs.length:=fun {mo ma i} hi=>by
      obtain ⟨f,e,_⟩:=Sw.hdP_mem.mp hi
      have:=(List.getElem?_eq_some_iff.mp e).1
      omega
    refine seq_step fun R hR=>?_
    walk_at "rd"
    intro sl hsl
    refine hR _ _ ?_
    have n1:=same_new (o:=.lst []) hsl
    have SL:ScL (upd H1 sl (.lst [])) sl [] []:=⟨upd_same,.nil⟩
    generalize upd H1 sl (.lst [])=H2 at n1 SL ⊢
    refine seq_step fun R hR=>?_
    walk_at "rd"
    refine ⟨_,_,70,rfl,by decide,Sw.Sz.r18 (by decide) (by decide),fun _ pm fm=>hR _ _ ?_,fun z=>absurd z (by decide)⟩
    rw [f01]
    have n2:=same_new (o:=.tup (fq 0)) fm
    refine seq_step fun R hR=>?_
    walk_at "rd"
    refine ⟨_,_,70,rfl,by decide,Sw.Sz.r18 (by decide) (by decide),fun _ pk fk=>hR _ _ ?_,fun z=>absurd z (by decide)⟩
    rw [f01]
    have n3:=same_new (o:=.tup (fq 0)) fk
    have hm:upd (upd H2 pm (.tup (fq 0))) pk (.tup (fq 0)) pm=some (.tup (fq 0)):=n3 _ _ upd_same
    have hk:upd (upd H2 pm (.tup (fq 0))) pk (.tup (fq 0)) pk=some (.tup (fq 0)):=upd_same
    have SL:=(SL.same n2).same n3
    have n1:=(n1.trans n2).trans n3
    generalize upd (upd H2 pm (.tup (fq 0))) pk (.tup (fq 0))=H3 at n1 SL hm hk ⊢
    clear n2 n3 fm fk
    refine while_m (fun m σ H'=>∃ done sp mo ma G pm pk v5 v6 v7 v8,σ = [some (.ref l),some (.ref tl),some (.ref sl),some (.ref pm),some (.ref pk),v5,v6,v7,v8]∧Same H1 H'∧ScL H' sl sp done∧H' pm=some (.tup (fq mo))∧H' pk=some (.tup (fq ma))∧Sw.FSt n M a c (fsOf qs ts) D mo ma G∧Sw.mu (fsOf qs ts) mo ma≤m∧sp.length+m≤2*n∧done++Sw.flowF (fsOf qs ts) (m+1) mo ma=Sw.flowF (fsOf qs ts) (2*n+1) 0 0) (m0:=2*n)
      ⟨[],[],0,0,D,pm,pk,none,none,none,none,rfl,n1,SL,hm,hk,.start ok,Sw.mu0 ok.ln 0 0,by simp,rfl⟩ ?_
    clear SL hm hk n1
    rintro m σ H4 ⟨done,sp,mo,ma,G,pm,pk,v5,v6,v7,v8,rfl,sm,SL,hm,hk,st,hmu,hln,tot⟩
    refine ⟨true,fun Q hQ=>⟨_,rfl,hQ⟩,fun _=>?_,fun z=>by cases z⟩
    show tSeq _ _ _ [some (.ref l),some (.ref tl),some (.ref sl),some (.ref pm),some (.ref pk),v5,v6,v7,v8] H4
    have zmo:=(st.zmo ok).mono (show 2130≤2400 by decide)
    have zma:=(st.zma ok).mono (show 2130≤2400 by decide)
    refine seq_step fun R hR=>?_
    walk_at "rd"
    refine ⟨l,ps,qs,tl,tp,ts,pm,pk,mo,ma,rfl,R1.same sm,TL.same sm,tln,by omega,hm,hk,zmo.mono (by decide),zma.mono (by decide),szt,fun q h=>⟨(hq q h).1,(hq q h).2.1⟩,fun h H5 s5 nh hh=>hR _ _ ?_⟩
    have slen:(Sw.hdP (fsOf qs ts) mo ma).length≤60:=by have:=Sw.hdP_len (fsOf qs ts) mo ma; omega
    refine seq_step fun R hR=>?_
    walk_at "rd"
    refine ⟨⟨_,.of hh⟩,fun Dl hDl=>?_⟩
    refine comp_pure (K:=K) (a:=h) (xs:=(Sw.hdP (fsOf qs ts) mo ma).map natI) (v0:=none) (caps:=[some (.ref l)]) (shV (fsOf qs ts)) hDl (.of hh) (by rw [List.length_map]; omega) (fun x hx v H' C N s' h1 h2=>?_) ?_
    · obtain ⟨i,hi,rfl⟩:=List.mem_map.mp hx
      obtain ⟨q,t,e1,e2,e3⟩:=get i (hdi hi)
      have Rx:=((R1.same sm).same s5).same s'
      obtain ⟨p,q',i1,i2,i3⟩:=Rx.item (i:=(i:Int)) (by omega) (by have:=hdi hi; omega)
      have i2:qs[i]? = some q':=by simpa using i2
      rw [e1] at i2
      cases i2
      unfold natI
      walk_at "rd"
      simp only [tYes,if_true]
      refine ixL_at (.of Rx.hl) i1 ?_
      refine ixT_at (.of i3) rfl ?_
      exact h1 _ (by show some (V.int (Sw.shr (fsOf qs ts) i))=some _; rw [Sw.shr_at e3])
    rw [shV_map]
    refine ⟨Dl,_,rfl,.of upd_same,hR _ _ ?_⟩
    have s6:=s5.trans (same_new (o:=.lst (((Sw.hdP (fsOf qs ts) mo ma).map (Sw.shr (fsOf qs ts))).map V.int)) hDl)
    have hh:=same_new (o:=.lst (((Sw.hdP (fsOf qs ts) mo ma).map (Sw.shr (fsOf qs ts))).map V.int)) hDl _ _ hh
    generalize upd H5 Dl (.lst (((Sw.hdP (fsOf qs ts) mo ma).map (Sw.shr (fsOf qs ts))).map V.int))=H6 at s6 hh ⊢
    clear hDl s5
    have hS:((Sw.hdP (fsOf qs ts) mo ma).map (Sw.shr (fsOf qs ts))).sum=Sw.shP (fsOf qs ts) (Sw.hdP (fsOf qs ts) mo ma):=rfl
    rw [hS]
    refine seq_step fun R hR=>?_
    walk_at "rd"
    have R6:=(R1.same sm).same s6
    have hm6:=s6 _ _ hm
    refine ⟨⟨_,.of R6.hl⟩,fun Cl hCl=>?_⟩
    have nCl:H4 Cl=none:=s6.free hCl
    refine comp_walk (xs:=ps.map V.ref) (fun i τ H'=>∃ v es,τ = [v,some (.ref pm)]∧Same H6 H'∧Lst fq H' Cl es ((qs.take i).filterMap fun q=>if mo<(q.1:Rat) then some (q.1:Rat) else none)∧es.length≤i) ⟨none,[],rfl,same_new hCl,⟨upd_same,.nil⟩,Nat.le_refl _⟩ (fun i τ H' _ ⟨_,_,_,s',_⟩=>.of (s' _ _ R6.hl)) ?_ ?_
    · rintro i y τ H7 hy ⟨v,es,rfl,s7,L,le⟩
      obtain ⟨pp,hpp,rfl⟩:∃ p,ps[i]? = some p∧V.ref p=y:=by simpa using hy
      obtain ⟨q,hqi,hqp⟩:=R6.r.get hpp
      have hi:i<qs.length:=(List.getElem?_eq_some_iff.mp hqi).1
      obtain ⟨q0,q1,_⟩:=hq q (List.mem_of_getElem? hqi)
      have et:=take_succ_of hqi
      walk_at "rd"
      refine ixT_at (.of (s7 _ _ hqp)) rfl ?_
      walk_at "rd"
      intro w1 f1
      have m1:=same_new (o:=.tup [.int q.1,.int 1]) f1
      refine ⟨pm,w1,mo,(q.1:Rat),rfl,m1 _ _ (s7 _ _ hm6),at_int (n:=q.1),zmo.mono (by decide),(szq_at q0 q1).mono (by decide),?_⟩
      have s7:=s7.trans m1
      have L:Lst fq (upd H7 w1 (.tup [.int q.1,.int 1])) Cl es _:=⟨m1 _ _ L.hl,tupsF_same L.r m1⟩
      generalize upd H7 w1 (.tup [.int q.1,.int 1])=H8 at s7 L ⊢
      clear m1 f1
      walk_at "rd"
      refine ite2 (fun c1=>?_) fun c1=>?_
      · refine ixT_at (.of (s7 _ _ hqp)) rfl ?_
        walk_at "rd"
        refine ⟨_,_,70,rfl,by decide,Sw.Sz.r18 (by decide) (by decide),fun _ w2 f2=>?_,fun z=>absurd z (by decide)⟩
        have m2:=same_new (o:=.tup (fq (((q.1:Int):Rat) / ((1:Int):Rat)))) f2
        have kt:∀ b xs,upd H8 w2 (.tup (fq (((q.1:Int):Rat) / ((1:Int):Rat)))) b=some (.tup xs)→upd (upd H8 w2 (.tup (fq (((q.1:Int):Rat) / ((1:Int):Rat))))) Cl (.lst (es.map V.ref++[.ref w2])) b=some (.tup xs):=fun b xs e=>by
          rw [upd_ne (ne_of e (m2 _ _ L.hl) (by intro z; cases z))]; exact e
        refine ⟨_,m2 _ _ L.hl,line_lt (by rw [List.length_map]; omega),fun b o e=>?_,es++[w2],⟨?_,?_⟩,by rw [List.length_append]; simp only [List.length_cons,List.length_nil]; omega⟩
        · rw [upd_ne (ne_of_none e hCl)]; exact m2 _ _ (s7 _ _ e)
        · rw [upd_same,List.map_append]; rfl
        · rw [et,List.filterMap_append]
          have e1:([q]:List Q4).filterMap (fun q=>if mo<(q.1:Rat) then some (q.1:Rat) else none) = [(q.1:Rat)]:=by simp [c1]
          rw [e1]
          exact tupsF_snoc (kt _ _ (by rw [upd_same,div1])) (tupsF_keep (tupsF_same L.r m2) kt)
      · refine ⟨s7,es,⟨L.hl,?_⟩,by omega⟩
        rw [et,List.filterMap_append]
        have e1:([q]:List Q4).filterMap (fun q=>if mo<(q.1:Rat) then some (q.1:Rat) else none) = []:=by simp [c1]
        rw [e1,List.append_nil]
        exact L.r
    rintro τ H7 ⟨v,es,rfl,s67,L,le⟩
    rw [List.take_of_length_le (by rw [List.length_map]; have:=R0.r.len; omega),← chq mo] at L
    have len7:es.length≤60:=by rw [List.length_map] at le; have:=R0.r.len; omega
    refine hR _ _ ?_
    have s7:=s6.trans s67
    have hh7:=s67 _ _ hh
    clear s67
    refine seq_step fun R hR=>?_
    have next:∀ es' H8,Same H4 H8→H8 h=some (.lst ((Sw.hdP (fsOf qs ts) mo ma).map natI))→Lst fq H8 Cl es' (Sw.chA (fsOf qs ts) mo ma)→R [some (.ref l),some (.ref tl),some (.ref sl),some (.ref pm),some (.ref pk),some (.ref h),some (.int (Sw.shP (fsOf qs ts) (Sw.hdP (fsOf qs ts) mo ma))),some (.ref Cl),v8] H8:=fun es' H8 s8 hh L=>by
      refine hR _ _ ?_
      have elen:=tupsF_len L.r
      refine seq_step fun R hR=>?_
      walk_at "rd"
      by_cases ce:Sw.chA (fsOf qs ts) mo ma = []
      · refine ⟨false,.inl ⟨_,.of L.hl,?_⟩,?_⟩
        · rw [ce] at elen
          rw [List.length_eq_zero_iff.mp elen]; rfl
        rw [if_pos rfl]
        refine k sl sp H8 ((s1.trans sm).trans s8) ?_
        have e:Sw.flowF (fsOf qs ts) (m+1) mo ma = []:=by unfold Sw.flowF; rw [if_pos ce]
        rw [e,List.append_nil] at tot
        rw [← tot]
        exact SL.same s8
      · refine ⟨true,.inl ⟨_,.of L.hl,?_⟩,?_⟩
        · cases es' with
          | nil =>
            rw [List.length_nil] at elen
            exact absurd (List.length_eq_zero_iff.mp elen.symm) ce
          | cons y r=>rfl
        rw [if_neg (by decide)]
        refine hR _ _ ?_
        refine seq_step fun R hR=>?_
        walk_at "rd"
        refine ⟨Cl,es',_,rfl,L,ce,fun x hx=>((st.zch ok hx).1).mono (by decide),fun r H9 s89 hr9=>hR _ _ ?_⟩
        have mem:=Sw.minL_mem ce
        have s9:=s8.trans s89
        have hh9:=s89 _ _ hh
        have nsl:H9 sl=some (.lst (sp.map V.ref)):=s9 _ _ SL.hl
        clear s89
        refine seq_step fun R hR=>?_
        walk_at "rd"
        by_cases he:Sw.hdP (fsOf qs ts) mo ma = []
        · refine ⟨false,.inl ⟨_,.of hh9,by rw [he]; rfl⟩,?_⟩
          rw [if_neg (by decide)]
          refine hR _ _ ?_
          have t1:=Sw.turn_rest he ce
          have mu1:=Sw.turn_mu t1
          refine nx_step fun R hR=>?_
          walk_at "rd"
          refine hR _ _ ⟨m-1,by omega,done,sp,_,ma,G,r,pk,_,_,_,_,rfl,sm.trans s9,SL.same s9,hr9,s9 _ _ hk,st.rest ok t1 ?_,by omega,by omega,?_⟩
          · rcases t1.way with z | z
            · exact z
            · exact absurd he z.1
          · rw [show m-1+1=m by omega,← tot,Sw.flowF_succ,if_neg ce,if_pos he]
        · refine ⟨true,.inl ⟨_,.of hh9,?_⟩,?_⟩
          · cases e:Sw.hdP (fsOf qs ts) mo ma with
            | nil=>exact absurd e he
            | cons y r=>rfl
          rw [if_pos rfl]
          have t1:=Sw.turn_go ok.s1 he
          have mu1:=Sw.turn_mu t1
          obtain ⟨G',st'⟩:=st.go ok he
          obtain ⟨S1,S2,S3,S4⟩:=ok.shB he
          have zS:Sw.Sz 70 (Sw.shP (fsOf qs ts) (Sw.hdP (fsOf qs ts) mo ma)):=Sw.Sz.r18 (by omega) (by omega)
          refine seq_step fun R' hR'=>?_
          walk_at "rd"
          refine ⟨tyL_at nsl,?_⟩
          refine ⟨⟨_,.of hh9⟩,fun Pl hPl=>?_⟩
          have R9:=(R1.same sm).same s9
          refine comp_walk (xs:=(Sw.hdP (fsOf qs ts) mo ma).map natI) (fun i τ H'=>∃ v es,τ = [v,some (.int (Sw.shP (fsOf qs ts) (Sw.hdP (fsOf qs ts) mo ma))),some (.ref l)]∧Same H9 H'∧H' Pl=some (.lst (es.map V.ref))∧Paired (PrA H') es (((Sw.hdP (fsOf qs ts) mo ma).take i).map fun i=>(i,(Sw.shr (fsOf qs ts) i:Rat) / (Sw.shP (fsOf qs ts) (Sw.hdP (fsOf qs ts) mo ma):Rat)))∧es.length≤i) ⟨none,[],rfl,same_new hPl,upd_same,.nil,Nat.le_refl _⟩ (fun i τ H' _ ⟨_,_,_,s',_⟩=>.of (s' _ _ hh9)) ?_ ?_
          · rintro i y τ H10 hy ⟨v,es,rfl,s10,hes,pr,le⟩
            obtain ⟨j,hj,rfl⟩:∃ j,(Sw.hdP (fsOf qs ts) mo ma)[i]? = some j∧natI j=y:=by simpa using hy
            have hi:i<(Sw.hdP (fsOf qs ts) mo ma).length:=(List.getElem?_eq_some_iff.mp hj).1
            have hjm:=List.mem_of_getElem? hj
            obtain ⟨q,t,e1,e2,e3⟩:=get j (hdi hjm)
            obtain ⟨p,q',i1,i2,i3⟩:=(R9.same s10).item (i:=(j:Int)) (by omega) (by have:=hdi hjm; omega)
            have i2:qs[j]? = some q':=by simpa using i2
            rw [e1] at i2
            cases i2
            have esh:Sw.shr (fsOf qs ts) j=q.2.2.2:=Sw.shr_at e3
            unfold natI
            walk_at "rd"
            simp only [tYes,if_true]
            walk_at "rd"
            refine ixL_at (.of (R9.same s10).hl) i1 ?_
            refine ixT_at (.of i3) rfl ?_
            walk_at "rd"
            refine ⟨_,_,70,rfl,by decide,zS,fun _ w1 f1=>?_,fun z=>absurd z (by omega)⟩
            intro w2 f2
            have m1:=same_new (o:=.tup (fq ((q.2.2.2:Rat) / (Sw.shP (fsOf qs ts) (Sw.hdP (fsOf qs ts) mo ma):Rat)))) f1
            have m2:=same_new (o:=.tup [.int (j:Int),.ref w1]) f2
            have m3:=m1.trans m2
            have h1:upd (upd H10 w1 (.tup (fq ((q.2.2.2:Rat) / (Sw.shP (fsOf qs ts) (Sw.hdP (fsOf qs ts) mo ma):Rat))))) w2 (.tup [.int (j:Int),.ref w1]) w1=some (.tup (fq ((Sw.shr (fsOf qs ts) j:Rat) / (Sw.shP (fsOf qs ts) (Sw.hdP (fsOf qs ts) mo ma):Rat)))):=by rw [esh]; exact m2 _ _ upd_same
            have h2:upd (upd H10 w1 (.tup (fq ((q.2.2.2:Rat) / (Sw.shP (fsOf qs ts) (Sw.hdP (fsOf qs ts) mo ma):Rat))))) w2 (.tup [.int (j:Int),.ref w1]) w2=some (.tup [.int (j:Int),.ref w1]):=upd_same
            generalize upd (upd H10 w1 (.tup (fq ((q.2.2.2:Rat) / (Sw.shP (fsOf qs ts) (Sw.hdP (fsOf qs ts) mo ma):Rat))))) w2 (.tup [.int (j:Int),.ref w1])=H11 at m3 h1 h2 ⊢
            have kt:∀ b xs,H11 b=some (.tup xs)→upd H11 Pl (.lst (es.map V.ref++[.ref w2])) b=some (.tup xs):=fun b xs e=>by
              rw [upd_ne (ne_of e (m3 _ _ hes) (by intro z; cases z))]; exact e
            refine ⟨_,m3 _ _ hes,line_lt (by rw [List.length_map]; omega),fun b o e=>?_,es++[w2],?_,?_,by rw [List.length_append]; simp only [List.length_cons,List.length_nil]; omega⟩
            · rw [upd_ne (ne_of_none e hPl)]; exact m3 _ _ (s10 _ _ e)
            · rw [upd_same,List.map_append]; rfl
            · rw [take_succ_of hj,List.map_append]
              exact paired_snoc ⟨w1,kt _ _ h2,kt _ _ h1⟩ (Paired.mapP (Paired.mapP pr fun _ _ z=>z.keep fun _ _ e=>m3 _ _ e) fun _ _ z=>z.keep kt)
          rintro τ H10 ⟨v,es,rfl,s10,hes,pr,le⟩
          rw [List.take_of_length_le (by rw [List.length_map]; exact Nat.le_refl _)] at pr
          intro t ft
          have s11:=s10.trans (same_new (o:=.tup [.ref pm,.ref r,.ref Pl]) ft)
          have m11:=same_new (o:=.tup [.ref pm,.ref r,.ref Pl]) ft
          have ht:upd H10 t (.tup [.ref pm,.ref r,.ref Pl]) t=some (.tup [.ref pm,.ref r,.ref Pl]):=upd_same
          have hes:=m11 _ _ hes
          have pr:=Paired.mapP pr fun _ _ z=>PrA.keep z fun _ _ e=>m11 _ _ e
          generalize upd H10 t (.tup [.ref pm,.ref r,.ref Pl])=H11 at s11 ht hes pr ⊢
          have s49:=s9.trans s11
          have nPl:Pl≠sl:=fun z=>by rw [z,nsl] at hPl; cases hPl
          refine app_at (s11 _ _ nsl) (by rw [List.length_map]; omega) (hR' _ _ ?_)
          have SL':=(SL.same s49).app (p:=t) (x:=(mo,Sw.minL (Sw.chA (fsOf qs ts) mo ma),Sw.prt (fsOf qs ts) mo ma)) ⟨pm,r,Pl,es,ht,s49 _ _ hm,s11 _ _ hr9,hes,pr⟩ (fun pf pt pl e=>by rw [ht] at e; cases e; exact nPl)
          have kp:∀ b o,b≠sl→H11 b=some o→upd H11 sl (.lst (sp.map V.ref++[.ref t])) b=some o:=fun b o n e=>by rw [upd_ne n]; exact e
          have hm':=kp _ _ (ne_of (s49 _ _ hm) (s11 _ _ nsl) (by intro z; cases z)) (s49 _ _ hm)
          have hk':=kp _ _ (ne_of (s49 _ _ hk) (s11 _ _ nsl) (by intro z; cases z)) (s49 _ _ hk)
          have hr':=kp _ _ (ne_of (s11 _ _ hr9) (s11 _ _ nsl) (by intro z; cases z)) (s11 _ _ hr9)
          have s12:Same H1 (upd H11 sl (.lst (sp.map V.ref++[.ref t]))):=fun b o e=>kp _ _ (ne_of_none e hsl) (s49 _ _ (sm _ _ e))
          generalize upd H11 sl (.lst (sp.map V.ref++[.ref t]))=H12 at SL' hm' hk' hr' s12 ⊢
          walk_at "rd"
          refine ⟨r,pm,_,mo,2400,rfl,hr',hm',by decide,((st.zch ok mem).1).mono (by decide),zmo,fun w1 f1=>?_⟩
          have m1:=same_new (o:=.tup (fq (Sw.minL (Sw.chA (fsOf qs ts) mo ma)-mo))) f1
          walk_at "rd"
          intro w2 f2
          have m2:=same_new (o:=.tup [.int (Sw.shP (fsOf qs ts) (Sw.hdP (fsOf qs ts) mo ma)),.int 1]) f2
          refine ⟨w1,w2,_,(Sw.shP (fsOf qs ts) (Sw.hdP (fsOf qs ts) mo ma):Rat),2400,rfl,m2 _ _ upd_same,at_int,by decide,((st.zch ok mem).2).mono (by decide),(Sw.SzQ.int zS).mono (by decide),Sw.q_cast_ne (by omega),fun w3 f3=>?_⟩
          have m3:=same_new (o:=.tup (fq ((Sw.minL (Sw.chA (fsOf qs ts) mo ma)-mo) / (Sw.shP (fsOf qs ts) (Sw.hdP (fsOf qs ts) mo ma):Rat)))) f3
          have m123:=(m1.trans m2).trans m3
          refine ⟨pk,w3,ma,_,2400,rfl,m123 _ _ hk',upd_same,by decide,zma,(st.zov ok he mem).mono (by decide),fun w4 f4=>?_⟩
          have m4:=same_new (o:=.tup (fq (ma+(Sw.minL (Sw.chA (fsOf qs ts) mo ma)-mo) / (Sw.shP (fsOf qs ts) (Sw.hdP (fsOf qs ts) mo ma):Rat)))) f4
          have m1234:=m123.trans m4
          refine hR _ _ ?_
          refine nx_step fun R hR=>?_
          walk_at "rd"
          refine hR _ _ ⟨m-1,by omega,_,sp++[t],_,_,G',r,w4,_,_,_,_,rfl,s12.trans m1234,SL'.same m1234,m1234 _ _ hr',upd_same,st',by omega,?_,?_⟩
          · rw [List.length_append]; simp only [List.length_cons,List.length_nil]; omega
          · rw [show m-1+1=m by omega,← tot,Sw.flowF_succ,if_neg ce,if_neg he,List.append_assoc]
            rfl
    walk_at "rd"
    by_cases he:Sw.hdP (fsOf qs ts) mo ma = []
    · refine ⟨false,.inl ⟨_,.of hh7,by rw [he]; rfl⟩,?_⟩
      rw [if_neg (by decide)]
      refine next es H7 s7 hh7 ?_
      have e:Sw.chA (fsOf qs ts) mo ma=Sw.chs (fsOf qs ts) mo:=by unfold Sw.chA; rw [if_pos he,List.append_nil]
      rw [e]
      exact L
    · refine ⟨true,.inl ⟨_,.of hh7,?_⟩,?_⟩
      · cases e:Sw.hdP (fsOf qs ts) mo ma with
        | nil=>exact absurd e he
        | cons y r=>rfl
      rw [if_pos rfl]
      obtain ⟨S1,S2,S3,S4⟩:=ok.shB he
      have zS:Sw.Sz 200 (Sw.shP (fsOf qs ts) (Sw.hdP (fsOf qs ts) mo ma)):=Sw.Sz.r60 (by omega) (by omega)
      refine ⟨tyL_at L.hl,tl,tp,ts,h,_,_,pm,pk,mo,ma,Sw.enP (fsOf qs ts),rfl,(TL.same sm).same s7,hh7,he,slen,fun i hi=>?_,s7 _ _ hm,s7 _ _ hk,zmo,zma,zS,((st.way ok he).2.2.2).mono (by decide),(st.zway ok he).mono (by decide),fun r H8 s8 hr8=>?_⟩
      · obtain ⟨q,t,e1,e2,e3⟩:=get i (hdi hi)
        refine ⟨t,e2,(Sw.enP_at e3).symm,?_⟩
        rw [Sw.enP_at e3]
        exact ((ok.szt (List.mem_of_getElem? e3)).2).mono (by decide)
      have L8:Lst fq H8 Cl es (Sw.chs (fsOf qs ts) mo):=⟨s8 _ _ L.hl,tupsF_same L.r s8⟩
      refine app_at L8.hl (by rw [List.length_map]; omega) ?_
      have kt:∀ b xs,H8 b=some (.tup xs)→upd H8 Cl (.lst (es.map V.ref++[.ref r])) b=some (.tup xs):=fun b xs e=>by
        rw [upd_ne (ne_of e L8.hl (by intro z; cases z))]; exact e
      refine next (es++[r]) _ (fun b o e=>?_) ?_ ⟨?_,?_⟩
      · rw [upd_ne (ne_of_none e nCl)]; exact s8 _ _ (s7 _ _ e)
      · have nhC:h≠Cl:=fun z=>by rw [← z] at hCl; rw [hh] at hCl; cases hCl
        rw [upd_ne nhC]; exact s8 _ _ hh7
      · rw [upd_same,List.map_append]; rfl
      · have e:Sw.chA (fsOf qs ts) mo ma=Sw.chs (fsOf qs ts) mo++[Sw.fst1 (fsOf qs ts) mo ma]:=by unfold Sw.chA; rw [if_neg he]
        rw [e]
        exact tupsF_snoc (kt _ _ hr8) (tupsF_keep L8.r kt)
theorem putK_le {kvs:List (Key×V)} {k:Key} {v:V}:(putK kvs k v).length≤kvs.length+1:=by
  unfold putK
  split
  · rw [List.length_map]; omega
  · rw [List.length_append]; simp
def spSpans:Sp:=fun vs H Q _=>∃ n M a c l ps qs,vs = [.ref l]∧Row H l ps qs∧Sw.Fit n M a c∧qs.length≤n∧(∀ q∈qs,Sw.PcOk M q)∧qs.Pairwise (fun a b=>a.1≤b.1)∧∀ tl tp H',Same H H'→H tl=none→TgL H' tl tp (Sw.spansF (Sw.endsF (Sw.flowF (fsOf qs (Sw.Ti.nil.tags qs)) (2*n+1) 0 0)) 0 (fun _=>none) qs)→Q (.ref tl) H'
theorem d_spans (T:Txt K mg c_Tide):Def P w K mg base (CXX P w) 8 "spans" ["row"] spSpans:=by
  have D_flow:=d_flow (P:=P) (w:=w) (base:=base) T
  have D_greater:=d_greater (P:=P) (w:=w) (base:=base) T
  refine T.src_spans.okN (k:=7) sc_spans (fun vs H Q E h=>?_) (fun f cdv A outer s H vs Q E hr h=>?_)
  · obtain ⟨n,M,a,c,l,ps,qs,rfl,_⟩:=h
    rfl
  · obtain ⟨n,M,a,c,l,ps,qs,rfl,R0,F,hn,hq,hp,k⟩:=h
    refine ⟨_,(pss_cons (ps_set (i:=1) sc_spans.nd rfl (by first|left;rfl|right;rfl) pe_dnewK) (pss_cons (ps_for PassesOwn.never rfl (pi_listK K rfl (pe_callX D_flow (hr.mono (by decide)) rfl passN (pa_cons (pv 0) pa_nil))) (pg_tupK (n:=3) K rfl rfl (pgs_cons (pg_name (i:=2) sc_spans.nd rfl (by first|left;rfl|right;rfl)) (pgs_cons (pg_name (i:=3) sc_spans.nd rfl (by first|left;rfl|right;rfl)) (pgs_cons (pg_name (i:=4) sc_spans.nd rfl (by first|left;rfl|right;rfl)) pgs_nil)))) (pss_one (ps_for PassesOwn.never rfl (pi_listK K rfl (pv 4)) (pg_tupK (n:=2) K rfl rfl (pgs_cons (pg_name (i:=5) sc_spans.nd rfl (by first|left;rfl|right;rfl)) (pgs_cons (pg_name (i:=6) sc_spans.nd rfl (by first|left;rfl|right;rfl)) pgs_nil))) (pss_one (ps_dput (hu_of hr) (pv 1) (pv 5) (pv 3) rfl))))) (pss_cons (ps_set (i:=7) sc_spans.nd rfl (by first|left;rfl|right;rfl) pe_dnewK) (pss_cons (ps_set (i:=8) sc_spans.nd rfl (by first|left;rfl|right;rfl) (pe_lst pa_nil)) (pss_cons (ps_for PassesOwn.never rfl (pi_enumK K rfl rfl T.no_enumerate (pa_cons (pv 0) pa_nil)) (pg_tupK (n:=2) K rfl rfl (pgs_cons (pg_name (i:=5) sc_spans.nd rfl (by first|left;rfl|right;rfl)) (pgs_cons (pg_name (i:=9) sc_spans.nd rfl (by first|left;rfl|right;rfl)) pgs_nil))) (pss_cons (ps_set (i:=10) sc_spans.nd rfl (by first|left;rfl|right;rfl) (pe_callX D_greater (hr.mono (by decide)) rfl passN (pa_cons (pe_tup (pa_cons (pe_ix (ix_tupK K rfl) (pv 9) pe_int (fun _ _=>rfl)) (pa_cons pe_int pa_nil))) (pa_cons (pe_dget2 (hu_of hr) (pv 7) (pe_ix (ix_tupK K rfl) (pv 9) pe_int (fun _ _=>rfl)) (pe_tup (pa_cons pe_int (pa_cons pe_int pa_nil))) ⟨rfl,rfl,rfl,rfl⟩) pa_nil)))) (pss_cons (ps_set (i:=3) sc_spans.nd rfl (by first|left;rfl|right;rfl) (pe_dget2 (hu_of hr) (pv 1) (pv 5) (pv 10) ⟨rfl,rfl,rfl,rfl⟩)) (pss_cons (ps_dput (hu_of hr) (pv 7) (pe_ix (ix_tupK K rfl) (pv 9) pe_int (fun _ _=>rfl)) (pv 3) rfl) (pss_one (ps_expr (pe_bm PySem.F.plainAttrs_list PySem.F.slot_list_append PySem.F.type_list_append mt_append (pv 8) (pa_cons (pe_tup (pa_cons (pv 10) (pa_cons (pv 3) pa_nil))) pa_nil)))))))) (pss_one (ps_ret (pv 8)))))))),?_⟩
    show tSeq _ _ _ [some (.ref l),none,none,none,none,none,none,none,none,none,none] H
    obtain ⟨D,ok⟩:=Sw.fs_ok F hn hq hp
    have n6:=F.n1
    have len:=R0.r.len
    have fz:=Sw.flow_sz ok (k:=2*n+1) (.start ok)
    have fl:=Sw.flowF_len (fs:=fsOf qs (Sw.Ti.nil.tags qs)) (n:=2*n+1) (mo:=0) (ma:=0)
    have big:120*62+100<sizeLine:=by decide
    refine seq_step fun R hR=>?_
    walk_at "rd"
    intro pd hpd
    refine hR _ _ ?_
    have n0:=same_new (o:=.dK []) hpd
    have hd0:upd H pd (.dK []) pd=some (.dK []):=upd_same
    generalize upd H pd (.dK [])=H0 at n0 hd0 ⊢
    refine seq_step fun R hR=>?_
    refine for_step fun Z hZ=>?_
    walk_at "rd"
    refine ⟨n,M,a,c,l,ps,qs,rfl,R0.same n0,F,hn,hq,hp,fun sl sp H1 s1 SL=>?_⟩
    generalize Sw.flowF (fsOf qs (Sw.Ti.nil.tags qs)) (2*n+1) 0 0=xs at k fz fl SL ⊢
    have xl:=Paired.length SL.r
    have hd1:=s1 _ _ hd0
    have s1:=n0.trans s1
    refine ⟨sl,rfl,⟨_,.of SL.hl⟩,hZ _ _ ?_⟩
    refine for_list (K:=K) (a:=sl) (xs:=sp.map V.ref) (fun i σ H'=>∃ v2 v3 v4 v5 v6 kvs,σ = [some (.ref l),some (.ref pd),v2,v3,v4,v5,v6,none,none,none,none]∧(∀ b o,b≠pd→H1 b=some o→H' b=some o)∧H' pd=some (.dK kvs)∧EnAt H' kvs (Sw.endsF (xs.take i))∧kvs.length≤60*i) ⟨none,none,none,none,none,[],rfl,fun _ _ _ e=>e,hd1,fun w=>.inl ⟨rfl,rfl⟩,Nat.zero_le _⟩ (fun i σ H' _ ⟨_,_,_,_,_,_,_,kp,_⟩=>.of (kp _ _ (ne_of SL.hl hd1 (by intro z; cases z)) SL.hl)) ?_ ?_
    · rintro i y σ H2 hy ⟨v2,v3,v4,v5,v6,kvs,rfl,kp,hd,ea,lk⟩
      obtain ⟨p,hpi,rfl⟩:∃ p,sp[i]? = some p∧V.ref p=y:=by simpa using hy
      obtain ⟨x,hx,⟨pf,pt,pl,es,g1,g2,g3,g4,g5⟩,nl⟩:=paired_get SL.r hpi
      have hi:i<sp.length:=(List.getElem?_eq_some_iff.mp hpi).1
      obtain ⟨zx,lx⟩:=fz x (List.mem_of_getElem? hx)
      have el:=Paired.length g5
      have tk:∀ b zs,H1 b=some (.tup zs)→b≠pd:=fun b zs e=>ne_of e hd1 (by intro z; cases z)
      refine ⟨p,_,rfl,.of (kp _ _ (tk _ _ g1) g1),rfl,?_⟩
      walk_at "rd"
      refine for_step fun Z' hZ'=>?_
      walk_at "rd"
      have npl:pl≠pd:=ne_of g4 hd1 (by intro z; cases z)
      refine ⟨⟨_,.of (kp _ _ npl g4)⟩,hZ' _ _ ?_⟩
      rw [take_succ_of hx,Sw.endsF_snoc]
      refine for_list (K:=K) (a:=pl) (xs:=es.map V.ref) (fun j σ H'=>∃ v5 v6 kvs,σ = [some (.ref l),some (.ref pd),some (.ref pf),some (.ref pt),some (.ref pl),v5,v6,none,none,none,none]∧(∀ b o,b≠pd→H1 b=some o→H' b=some o)∧H' pd=some (.dK kvs)∧EnAt H' kvs (Sw.putP (Sw.endsF (xs.take i)) x.2.1 (x.2.2.take j))∧kvs.length≤60*i+j) ⟨v5,v6,kvs,rfl,kp,hd,ea,by omega⟩ (fun j σ H' _ ⟨_,_,_,_,kp,_⟩=>.of (kp _ _ npl g4)) ?_ ?_
      · rintro j y' σ H3 hy' ⟨v5,v6,kvs,rfl,kp,hd,ea,lk⟩
        obtain ⟨w,hw,rfl⟩:∃ w,es[j]? = some w∧V.ref w=y':=by simpa using hy'
        obtain ⟨z,hz,pr,e1,e2⟩:=paired_get g5 hw
        have hj:j<es.length:=(List.getElem?_eq_some_iff.mp hw).1
        refine ⟨w,_,rfl,.of (kp _ _ (tk _ _ e1) e1),rfl,?_⟩
        walk_at "rd"
        refine ⟨_,DPut.k (k:=Sum.inl (z.1:Int)) hd (by omega),?_⟩
        have nt:∀ b zs,H3 b=some (.tup zs)→upd H3 pd (.dK (putK kvs (Sum.inl (z.1:Int):Key) (.ref pt))) b=some (.tup zs):=fun b zs e=>by
          rw [upd_ne (ne_of e hd (by intro z; cases z))]; exact e
        have pe:=(ea.put (w:=(z.1:Int)) (e:=x.2.1) (kp _ _ (tk _ _ g3) g3)).keep nt
        have lp:=putK_le (kvs:=kvs) (k:=(Sum.inl (z.1:Int):Key)) (v:=.ref pt)
        refine ⟨fun b o n e=>?_,_,upd_same,?_,?_⟩
        · rw [upd_ne n]; exact kp b o n e
        · rw [take_succ_of hz,Sw.putP_snoc]
          exact pe
        · omega
      · rintro σ H3 ⟨v5,v6,kvs,rfl,kp,hd,ea,lk⟩
        rw [List.take_of_length_le (l:=x.2.2) (by rw [List.length_map]; omega)] at ea
        rw [List.length_map] at lk
        exact ⟨⟨_,_,_,_,_,rfl⟩,kp,kvs,hd,ea,by omega⟩
    · rintro σ H2 ⟨v2,v3,v4,v5,v6,kvs,rfl,kp,hd,ea,lk⟩
      rw [List.length_map] at lk
      rw [List.take_of_length_le (by rw [List.length_map]; omega)] at ea
      refine hR _ _ ?_
      have s2:Same H H2:=fun b o e=>kp _ _ (ne_of_none e hpd) (s1 _ _ e)
      have ez:∀ w e,Sw.endsF xs w=some e→Sw.SzQ 2400 e:=fun w e h=>by
        obtain ⟨x,hx,e1⟩:=Sw.endsF_mem h
        rw [e1]
        exact ((fz x hx).1).mono (by decide)
      clear kp fz SL xl hd1
      generalize Sw.endsF xs=en at k ea ez
      refine seq_step fun R hR=>?_
      walk_at "rd"
      intro pa hpa
      refine hR _ _ ?_
      refine seq_step fun R hR=>?_
      walk_at "rd"
      intro tl htl
      refine hR _ _ ?_
      have m1:=same_new (o:=.dK []) hpa
      have m2:=same_new (o:=.lst []) htl
      have hpa':upd (upd H2 pa (.dK [])) tl (.lst []) pa=some (.dK []):=m2 _ _ upd_same
      have htl':upd (upd H2 pa (.dK [])) tl (.lst []) tl=some (.lst []):=upd_same
      have ntl:H2 tl=none:=m1.free htl
      have npt:pa≠tl:=ne_of_none (upd_same (H:=H2) (o:=.dK [])) htl
      have s3:=m1.trans m2
      generalize upd (upd H2 pa (.dK [])) tl (.lst [])=H3 at s3 hpa' htl' ⊢
      clear m1 m2 htl
      refine seq_step fun R hR=>?_
      refine for_step fun Z hZ=>?_
      walk_at "rd"
      refine ⟨⟨_,.of (R0.same (s2.trans s3)).hl⟩,hZ _ _ ?_⟩
      refine for_enum (xs:=ps.map V.ref) (fun i σ H'=>∃ v3 v5 v9 v10 ka tp,σ = [some (.ref l),some (.ref pd),v2,v3,v4,v5,v6,some (.ref pa),some (.ref tl),v9,v10]∧Same H2 H'∧H' pa=some (.dK ka)∧EnAt H' ka (Sw.aheadF en 0 (fun _=>none) (qs.take i))∧(∀ w e,Sw.aheadF en 0 (fun _=>none) (qs.take i) w=some e→Sw.SzQ 2400 e)∧TgL H' tl tp (Sw.spansF en 0 (fun _=>none) (qs.take i))∧ka.length≤i∧tp.length=i) ⟨_,_,none,none,[],[],rfl,s3,hpa',fun w=>.inl ⟨rfl,rfl⟩,(fun w e h=>by cases h),⟨htl',.nil⟩,Nat.zero_le _,rfl⟩ (fun i σ H' _ ⟨_,_,_,_,_,_,_,sm,_⟩=>.of (sm _ _ (R0.same s2).hl)) ?_ ?_
      · rintro i y σ H4 p hy ⟨v3',v5',v9,v10,ka,tp,rfl,sm,ha,ah,az,TL,lk',lt⟩ hp'
        obtain ⟨pp,hpp,rfl⟩:∃ p,ps[i]? = some p∧V.ref p=y:=by simpa using hy
        obtain ⟨q,hqi,hqp⟩:=(R0.same s2).r.get hpp
        have hi:i<qs.length:=(List.getElem?_eq_some_iff.mp hqi).1
        obtain ⟨q0,q1,_⟩:=hq q (List.mem_of_getElem? hqi)
        have et:=take_succ_of hqi
        have itk:(qs.take i).length=i:=by rw [List.length_take]; omega
        have e1:=Sw.spansF_snoc (en:=en) (i:=0) (ah:=fun _=>none) (l:=qs.take i) (q:=q)
        have e2:=Sw.aheadF_snoc (en:=en) (i:=0) (ah:=fun _=>none) (l:=qs.take i) (q:=q)
        rw [itk,Nat.zero_add] at e1 e2
        have sn:=same_new (o:=.tup [.int i,.ref pp]) hp'
        have sm:=sm.trans sn
        have ha:=sn _ _ ha
        have ah:=ah.keep fun _ _ e=>sn _ _ e
        have TL:=TL.same sn
        refine ⟨p,_,rfl,.of upd_same,rfl,?_⟩
        generalize upd H4 p (.tup [.int i,.ref pp])=H5 at sm ha ah TL ⊢
        clear sn hp'
        rw [et,e1,e2]
        generalize Sw.aheadF en 0 (fun _=>none) (qs.take i)=ahd at ah az ⊢
        generalize Sw.spansF en 0 (fun _=>none) (qs.take i)=sps at TL ⊢
        clear e1 e2
        walk_at "rd"
        refine seq_step fun R hR=>?_
        walk_at "rd"
        refine ixT_at (.of (sm _ _ hqp)) rfl ?_
        walk_at "rd"
        intro y1 f1
        have m1:=same_new (o:=.tup [.int q.1,.int 1]) f1
        refine ⟨.inl ⟨ka,.inl (m1 _ _ ha)⟩,ixT_at (.of (m1 _ _ (sm _ _ hqp))) rfl ?_⟩
        intro y2 f2
        have m2:=same_new (o:=.tup [.int 0,.int 1]) f2
        have m12:=m1.trans m2
        refine ⟨_,DGet.k (k:=Sum.inl q.2.1) (m12 _ _ ha),?_⟩
        obtain ⟨qe,ev,hqe,hev,eev,zev⟩:∃ qa e,(valV ka (Sum.inl q.2.1:Key)).getD (.ref y2) = .ref qa∧upd (upd H5 y1 (.tup [.int q.1,.int 1])) y2 (.tup [.int 0,.int 1]) qa=some (.tup (fq e))∧(ahd q.2.1).getD 0=e∧Sw.SzQ 2400 e:=by
          rcases ah q.2.1 with ⟨h1,h2⟩ | ⟨e,qa,h1,h2,h3⟩
          · rw [h1,h2]
            exact ⟨y2,0,rfl,at_int (n:=0),rfl,(Sw.SzQ.int (n:=0) (Sw.Sz.zero 200)).mono (by decide)⟩
          · rw [h1,h2]
            exact ⟨qa,e,rfl,m12 _ _ h3,rfl,az _ _ h1⟩
        rw [hqe]
        refine ⟨y1,qe,(q.1:Rat),ev,rfl,m2 _ _ at_int,hev,(szq_at q0 q1).mono (by decide),zev.mono (by decide),fun b fb=>hR _ _ ?_⟩
        have ebeg:max (q.1:Rat) ev=Sw.begF ahd q:=by unfold Sw.begF; rw [eev]
        have zb:Sw.SzQ 2400 (Sw.begF ahd q):=by
          rw [← ebeg,Rat.max_def]
          split
          · exact zev
          · exact (szq_at q0 q1).mono (by decide)
        rw [ebeg]
        have m3:=same_new (o:=.tup (fq (Sw.begF ahd q))) fb
        have m123:=m12.trans m3
        have hb:upd (upd (upd H5 y1 (.tup [.int q.1,.int 1])) y2 (.tup [.int 0,.int 1])) b (.tup (fq (Sw.begF ahd q))) b=some (.tup (fq (Sw.begF ahd q))):=upd_same
        have sm:=sm.trans m123
        have ha:=m123 _ _ ha
        have ah:=ah.keep fun _ _ e=>m123 _ _ e
        have TL:=TL.same m123
        generalize upd (upd (upd H5 y1 (.tup [.int q.1,.int 1])) y2 (.tup [.int 0,.int 1])) b (.tup (fq (Sw.begF ahd q)))=H6 at hb sm ha ah TL ⊢
        clear m1 m2 m12 m3 m123 f1 f2 fb hev
        refine seq_step fun R hR=>?_
        walk_at "rd"
        have hd6:=sm _ _ hd
        refine ⟨.inl ⟨kvs,.inl hd6⟩,⟨_,DGet.k (k:=Sum.inl (i:Int)) hd6,?_⟩⟩
        obtain ⟨qz,evz,hqz,hez,eez,zez⟩:∃ qa e,(valV kvs (Sum.inl (i:Int):Key)).getD (.ref b) = .ref qa∧H6 qa=some (.tup (fq e))∧(en (i:Int)).getD (Sw.begF ahd q)=e∧Sw.SzQ 2400 e:=by
          rcases ea (i:Int) with ⟨h1,h2⟩ | ⟨e,qa,h1,h2,h3⟩
          · rw [h1,h2]
            exact ⟨b,_,rfl,hb,rfl,zb⟩
          · rw [h1,h2]
            exact ⟨qa,e,rfl,sm _ _ h3,rfl,ez _ _ h1⟩
        rw [hqz]
        refine hR _ _ ?_
        refine seq_step fun R hR=>?_
        walk_at "rd"
        refine ixT_at (.of (sm _ _ hqp)) rfl ?_
        refine ⟨_,DPut.k (k:=Sum.inl q.2.1) ha (line_lt (by omega)),hR _ _ ?_⟩
        have nt:∀ b zs,H6 b=some (.tup zs)→upd H6 pa (.dK (putK ka (Sum.inl q.2.1:Key) (.ref qz))) b=some (.tup zs):=fun b zs e=>by
          rw [upd_ne (ne_of e ha (by intro z; cases z))]; exact e
        have nl:∀ b zs,H6 b=some (.lst zs)→upd H6 pa (.dK (putK ka (Sum.inl q.2.1:Key) (.ref qz))) b=some (.lst zs):=fun b zs e=>by
          rw [upd_ne (ne_of e ha (by intro z; cases z))]; exact e
        have ah7:=(ah.put (w:=q.2.1) (e:=evz) hez).keep nt
        have TL7:TgL (upd H6 pa (.dK (putK ka (Sum.inl q.2.1:Key) (.ref qz)))) tl tp sps:=⟨nl _ _ TL.hl,Paired.mapP TL.r fun _ _ z=>z.keep nt⟩
        have sm7:Same H2 (upd H6 pa (.dK (putK ka (Sum.inl q.2.1:Key) (.ref qz)))):=fun b o e=>by
          rw [upd_ne (ne_of_none e hpa)]; exact sm _ _ e
        have lp:=putK_le (kvs:=ka) (k:=(Sum.inl q.2.1:Key)) (v:=.ref qz)
        have ha7:upd H6 pa (.dK (putK ka (Sum.inl q.2.1:Key) (.ref qz))) pa=some (.dK (putK ka (Sum.inl q.2.1:Key) (.ref qz))):=upd_same
        have hb7:=nt _ _ hb
        have hz7:=nt _ _ hez
        have az7:∀ w e,setE ahd q.2.1 evz w=some e→Sw.SzQ 2400 e:=fun w e h=>by
          unfold setE at h
          split at h
          · cases h; exact zez
          · exact az _ _ h
        generalize upd H6 pa (.dK (putK ka (Sum.inl q.2.1:Key) (.ref qz)))=H7 at ah7 TL7 sm7 ha7 hb7 hz7 ⊢
        clear nt nl ah az TL sm ha hb hez
        rw [eez]
        refine nx_step fun R hR=>?_
        walk_at "rd"
        refine ⟨tyL_at TL7.hl,fun t ft=>?_⟩
        have m1:=same_new (o:=.tup [.ref b,.ref qz]) ft
        refine app_at (m1 _ _ TL7.hl) (by rw [List.length_map]; omega) (hR _ _ ?_)
        have kt:∀ c zs,upd H7 t (.tup [.ref b,.ref qz]) c=some (.tup zs)→upd (upd H7 t (.tup [.ref b,.ref qz])) tl (.lst (tp.map V.ref++[.ref t])) c=some (.tup zs):=fun c zs e=>by
          rw [upd_ne (ne_of e (m1 _ _ TL7.hl) (by intro z; cases z))]; exact e
        have kd:∀ c zs,upd H7 t (.tup [.ref b,.ref qz]) c=some (.dK zs)→upd (upd H7 t (.tup [.ref b,.ref qz])) tl (.lst (tp.map V.ref++[.ref t])) c=some (.dK zs):=fun c zs e=>by
          rw [upd_ne (ne_of e (m1 _ _ TL7.hl) (by intro z; cases z))]; exact e
        have S:Same H2 (upd (upd H7 t (.tup [.ref b,.ref qz])) tl (.lst (tp.map V.ref++[.ref t]))):=fun c o e=>by
          rw [upd_ne (ne_of_none e ntl)]; exact m1 _ _ (sm7 _ _ e)
        have TL8:TgL (upd (upd H7 t (.tup [.ref b,.ref qz])) tl (.lst (tp.map V.ref++[.ref t]))) tl (tp++[t]) (sps++[(Sw.begF ahd q,evz)]):=⟨by rw [upd_same,List.map_append]; rfl,paired_snoc ⟨b,qz,kt _ _ upd_same,kt _ _ (m1 _ _ hb7),kt _ _ (m1 _ _ hz7)⟩ (Paired.mapP (TL7.same m1).r fun _ _ z=>z.keep kt)⟩
        exact ⟨⟨_,_,_,_,rfl⟩,S,_,kd _ _ (m1 _ _ ha7),(ah7.keep fun _ _ e=>m1 _ _ e).keep kt,az7,tp++[t],TL8,by omega,by rw [List.length_append]; simp [lt]⟩
      · rintro σ H4 ⟨v3',v5',v9,v10,ka,tp,rfl,sm,ha,ah,az,TL,lk',lt⟩
        refine hR _ _ ?_
        walk_at "rd"
        refine k tl tp H4 (s2.trans sm) (s2.free ntl) ?_
        rw [List.take_of_length_le (by rw [List.length_map]; omega)] at TL
        exact TL
theorem d__law_cell_at (T:Txt K mg c_Tide):Def P w K mg base (CXX P w) 1 "_law_cell_at" ["_law_script", "_law_k"] (spCell K):=by
  refine T.src__law_cell_at.okN (k:=0) sc__law_cell_at (fun vs H Q E h=>?_) (fun f cdv A outer s H vs Q E hr h=>?_)
  · obtain ⟨a,ns,i,rfl,_⟩:=h
    rfl
  · obtain ⟨a,ns,i,rfl,hS,hi,k⟩:=h
    refine ⟨_,(pss_cons (ps_if (pt_cmpR op_lt (pv 1) (pe_callB (call_lenK K rfl) rfl T.no_len boot_len (pa_cons (pv 0) pa_nil)) (nomark _)) (pss_one (ps_ret (pe_ix (ix_listK K rfl) (pv 0) (pv 1) (fun _ _=>rfl)))) pss_nil) (pss_one (ps_ret pe_int))),?_⟩
    refine ⟨_,rfl,_,rfl,a,_,rfl,.inl hS,_,_,rfl,rfl,_,rfl,?_⟩
    refine ite2 (fun h=>?_) (fun h=>?_)
    · have h':i<(ns.map V.int).length:=of_decide_eq_true h
      exact ⟨_,rfl,_,rfl,a,_,_,_,rfl,rfl,hS,cellAt_get hi (by simpa using h'),k⟩
    · have h':¬ i<(ns.map V.int).length:=fun z=>h (decide_eq_true z)
      show Q (.int 0) H
      rw [cellAt_none hi (by simpa using h')] at k
      exact k
theorem cut_len (xs:List V) (lo hi:Nat):(cutV xs (some (lo:Int)) (some (hi:Int))).length≤hi-lo:=by
  unfold cutV
  rw [HT.sIx_nat,HT.sIx_nat,List.length_take]
  omega
theorem pickX {K:PySem.W.Frag} {H:Hp} {t:Addr} {i:Int} {Q:VK} (xs:List Int) (h0:0≤i) (h1:i<xs.length) (k:∀ z:Int,xs[i.toNat]? = some z→Q (.int z) (upd H t (.lst (xs.map V.int)))):rIxL K (.ref t) (.int i) (upd H t (.lst (xs.map V.int))) Q:=by
  have:=atI_nat (xs:=xs.map V.int) (j:=i.toNat) (v:=V.int (xs[i.toNat]'(by omega))) (by simp)
  rw [Int.toNat_of_nonneg h0] at this
  exact ixL_at (.of upd_same) this (k _ (List.getElem?_eq_getElem _))
def mixX (c i:Int):Int:=c % 2147483647+7919*i+1
def mixY (c i:Int):Int:=(mixX c i*mixX c i+48271*mixX c i+11) % 2147483647
def mixT (c i:Int):Int:=(mixY c i*mixY c i+69621*mixY c i+i) % 2147483647
def mixB (c:Int):Int:=if c / 128 % 2 = 0 then 50 else 1000000000
def itD (b x:Int):Nat→Int
  | 0=>x
  | n+1=>itD b x n / b
def mixF (c i:Int):Int:=if c / 64 % 2 = 1∧0<itD (mixB c) (c / 256) (i-1).toNat then itD (mixB c) (c / 256) (i-1).toNat % mixB c else mixT c i
def spMixF:Sp:=fun vs H Q _=>∃ c i,vs = [.int c,.int i]∧0≤i∧i<1000∧∀ m H',m=mixF c i→Same H H'→0≤m→m<2147483647→Q (.int m) H'
theorem d__law_mix (T:Txt K mg c_Tide):Def P w K mg base (CXX P w) 1 "_law_mix" ["_law_cell", "_law_k"] spMixF:=by
  refine T.src__law_mix.okN (k:=0) sc__law_mix (fun vs H Q E h=>?_) (fun f cdv A outer s H vs Q E hr h=>?_)
  · obtain ⟨c,i,rfl,_⟩:=h
    rfl
  · obtain ⟨c,i,rfl,h0,h1,k⟩:=h
    refine ⟨_,(pss_cons (ps_if (pt_cmpR op_eq (pe_op op_mod (pe_op op_fdivL (pv 0) pe_int) pe_int) pe_int (nomark _)) (pss_cons (ps_set (i:=2) sc__law_mix.nd rfl (by first|left;rfl|right;rfl) (pe_ix (ix_listK K rfl) (pe_lst (pa_cons pe_int (pa_cons (pe_op op_pow pe_int pe_int) pa_nil))) (pe_op op_mod (pe_op op_fdivL (pv 0) pe_int) pe_int) (fun _ _=>rfl))) (pss_cons (ps_set (i:=3) sc__law_mix.nd rfl (by first|left;rfl|right;rfl) (pe_op op_fdivL (pv 0) pe_int)) (pss_cons (ps_for PassesOwn.never rfl (pi_range1 rfl T.no_range (pa_cons (pe_op op_sub (pv 1) pe_int) pa_nil)) (pg_name (i:=4) sc__law_mix.nd rfl (by first|left;rfl|right;rfl)) (pss_one (ps_set (i:=3) sc__law_mix.nd rfl (by first|left;rfl|right;rfl) (pe_op op_fdivL (pv 3) (pv 2))))) (pss_one (ps_if (pt_cmpR op_gt (pv 3) pe_int (nomark _)) (pss_one (ps_ret (pe_op op_mod (pv 3) (pv 2)))) pss_nil))))) pss_nil) (pss_cons (ps_set (i:=5) sc__law_mix.nd rfl (by first|left;rfl|right;rfl) (pe_op op_add (pe_op op_add (pe_op op_mod (pv 0) pe_int) (pe_op op_mulL pe_int (pv 1))) pe_int)) (pss_cons (ps_set (i:=5) sc__law_mix.nd rfl (by first|left;rfl|right;rfl) (pe_op op_mod (pe_op op_add (pe_op op_add (pe_op op_mulL (pv 5) (pv 5)) (pe_op op_mulL pe_int (pv 5))) pe_int) pe_int)) (pss_one (ps_ret (pe_op op_mod (pe_op op_add (pe_op op_add (pe_op op_mulL (pv 5) (pv 5)) (pe_op op_mulL pe_int (pv 5))) (pv 1)) pe_int)))))),?_⟩
    show tSeq _ _ _ [some (.int c),some (.int i),none,none,none,none] H
    refine seq_step fun R hR=>?_
    have tail:∀ v2 v3 v4 H1,mixF c i=mixT c i→Same H H1→R [some (.int c),some (.int i),v2,v3,v4,none] H1:=fun v2 v3 v4 H1 em sm=>by
      refine hR _ _ ?_
      refine seq_step fun R hR=>?_
      walk_at "rd"
      refine ⟨⟨Sw.Sz.lit (by decide),(Sw.Sz.r18 (by omega) (by omega)).mono (by decide)⟩,hR _ _ ?_⟩
      have e1:=Int.emod_nonneg c (show (2147483647:Int)≠0 by decide)
      have e2:=Int.emod_lt_of_pos c (show (0:Int)<2147483647 by decide)
      have z1:Sw.Sz 70 (c % 2147483647+7919*i+1):=Sw.Sz.r18 (by omega) (by omega)
      generalize hx:c % 2147483647+7919*i+1=x at z1 ⊢
      refine seq_step fun R hR=>?_
      walk_at "rd"
      refine ⟨⟨z1.mono (by decide),z1.mono (by decide)⟩,⟨Sw.Sz.lit (by decide),z1.mono (by decide)⟩,hR _ _ ?_⟩
      generalize hy:(x*x+48271*x+11) % 2147483647=y
      have e3:0≤y:=by rw [← hy]; exact Int.emod_nonneg _ (by decide)
      have e4:y<2147483647:=by rw [← hy]; exact Int.emod_lt_of_pos _ (by decide)
      have z2:Sw.Sz 70 y:=Sw.Sz.r18 (by omega) (by omega)
      walk_at "rd"
      exact ⟨⟨z2.mono (by decide),z2.mono (by decide)⟩,⟨Sw.Sz.lit (by decide),z2.mono (by decide)⟩,k _ _ (by rw [em]; unfold mixT mixY mixX; rw [hx,hy]) sm (Int.emod_nonneg _ (by decide)) (Int.emod_lt_of_pos _ (by decide))⟩
    walk_at "rd"
    refine ite2 (fun hc=>?_) fun hc=>tail _ _ _ _ (by unfold mixF; rw [if_neg fun z=>hc z.1]) (Same.refl _)
    refine seq_step fun R hR=>?_
    walk_at "rd"
    intro t ht
    refine pickX [50,1000000000] (by omega) (by show c / 128 % 2<2; omega) fun m hm=>hR _ _ ?_
    have mb:m=mixB c:=by
      unfold mixB
      rcases (show c / 128 % 2 = 0∨c / 128 % 2 = 1 by omega) with z | z
      · rw [z] at hm
        rw [if_pos z]
        have:some (50:Int)=some m:=hm
        cases this; rfl
      · rw [z] at hm
        rw [if_neg (by omega)]
        have:some (1000000000:Int)=some m:=hm
        cases this; rfl
    have hm:=List.mem_of_getElem? hm
    have m0:0<m∧m≤1000000000:=by
      simp only [List.mem_cons,List.not_mem_nil,or_false] at hm
      omega
    have sm:=same_new (o:=.lst (([50,1000000000]:List Int).map V.int)) ht
    generalize upd H t (.lst (([50,1000000000]:List Int).map V.int))=H1 at sm ⊢
    refine seq_step fun R hR=>?_
    walk_at "rd"
    refine hR _ _ ?_
    refine seq_step fun R hR=>?_
    refine for_step fun Z hZ=>?_
    walk_at "rd"
    refine ⟨by omega,by omega,hZ _ _ ?_⟩
    refine for_range (fun j σ H'=>H'=H1∧∃ v,σ = [some (.int c),some (.int i),some (.int m),some (.int (itD m (c / 256) j)),v,none]) ⟨rfl,_,rfl⟩ ?_ ?_
    · rintro j σ H2 hj ⟨rfl,v,rfl⟩
      walk_at "rd"
      exact ⟨⟨m0.1,(Sw.Sz.r18 (by omega) (by omega)).mono (by decide)⟩,rfl⟩
    · rintro σ H2 ⟨rfl,v,rfl⟩
      refine hR _ _ ?_
      refine nx_step fun R hR=>?_
      walk_at "rd"
      refine ite2 (fun h=>⟨m0.1,k _ _ (by unfold mixF; rw [← mb,if_pos ⟨hc,h⟩]) sm (Int.emod_nonneg _ (by omega)) ?_⟩) fun h=>hR _ _ (tail _ _ _ _ (by unfold mixF; rw [← mb,if_neg fun z=>h z.2]) sm)
      have:=Int.emod_lt_of_pos (itD m (c / 256) (i-1).toNat) m0.1
      omega
structure Bst (way:Int) (ss:List Sw.S3):Prop where
  n:ss.length≤8
  w2:way = 2→ss.length≤5
  s:∀ s∈ss,1≤s.1∧s.1≤1000000∧(way≠2→s.1≤1000)
  b:∀ s∈ss,1≤s.2.1∧s.2.1≤1000000
  r:∀ s∈ss,s.2.2 = 0
def spSenders (K:PySem.W.Frag):Sp:=fun vs H Q _=>∃ (a:Addr) (ns:List Int),vs = [.ref a]∧SqL K H a (ns.map V.int)∧ns.length≤63∧∀ H' l ps ss way,Same H H'→H l=none→SnL H' l ps ss→Bst way ss→0≤way→way<3→(ss = []∨ss.length+1≤ns.length)→Q (.ref l) H'
theorem d__law_senders (T:Txt K mg c_Tide):Def P w K mg base (CXX P w) 2 "_law_senders" ["_law_script"] (spSenders K):=by
  have D__law_mix:=d__law_mix (P:=P) (w:=w) (base:=base) T
  have D__law_cell_at:=d__law_cell_at (P:=P) (w:=w) (base:=base) T
  refine T.src__law_senders.okN (k:=1) sc__law_senders (fun vs H Q E h=>?_) (fun f cdv A outer s H vs Q E hr h=>?_)
  · obtain ⟨a,ns,rfl,_⟩:=h
    rfl
  · obtain ⟨a,ns,rfl,hS,hlen,k⟩:=h
    refine ⟨_,(pss_cons (ps_set (i:=1) sc__law_senders.nd rfl (by first|left;rfl|right;rfl) (pe_op op_mod (pe_callX D__law_cell_at (hr.mono (by decide)) rfl passN (pa_cons (pv 0) (pa_cons pe_int pa_nil))) pe_int)) (pss_cons (ps_set (i:=2) sc__law_senders.nd rfl (by first|left;rfl|right;rfl) (pe_lst pa_nil)) (pss_cons (ps_for PassesOwn.never rfl (pi_listK K rfl (pe_slice (sl_listK K rfl) (pv 0) (po_some pe_int) (po_some (pe_ix (ix_listK K rfl) (pe_lst (pa_cons pe_int (pa_cons pe_int (pa_cons pe_int pa_nil)))) (pv 1) (fun _ _=>rfl))))) (pg_name (i:=3) sc__law_senders.nd rfl (by first|left;rfl|right;rfl)) (pss_cons (ps_set (i:=4) sc__law_senders.nd rfl (by first|left;rfl|right;rfl) (pe_op op_add pe_int (pe_op op_mod (pe_callX D__law_mix (hr.mono (by decide)) rfl passN (pa_cons (pv 3) (pa_cons pe_int pa_nil))) (pe_ix (ix_listK K rfl) (pe_lst (pa_cons pe_int (pa_cons pe_int (pa_cons (pe_op op_pow pe_int pe_int) pa_nil)))) (pv 1) (fun _ _=>rfl))))) (pss_one (ps_expr (pe_bm PySem.F.plainAttrs_list PySem.F.slot_list_append PySem.F.type_list_append mt_append (pv 2) (pa_cons (pe_tup (pa_cons (pe_op op_add pe_int (pe_op op_mod (pe_callX D__law_mix (hr.mono (by decide)) rfl passN (pa_cons (pv 3) (pa_cons pe_int pa_nil))) (pe_ix (ix_listK K rfl) (pe_lst (pa_cons pe_int (pa_cons pe_int (pa_cons (pe_op op_pow pe_int pe_int) pa_nil)))) (pv 1) (fun _ _=>rfl)))) (pa_cons (pe_tup (pa_cons (pv 4) (pa_cons (pe_tup (pa_cons pe_int (pa_cons pe_int pa_nil))) pa_nil))) pa_nil))) pa_nil)))))) (pss_one (ps_ret (pv 2)))))),?_⟩
    show tSeq _ _ _ [some (.ref a),none,none,none,none] H
    refine seq_step fun R hR=>?_
    walk_at "rd"
    refine spCell_of hS (by decide) ?_
    refine ⟨_,rfl,hR _ _ ?_⟩
    clear hR
    generalize hw:cellI ns 0 % 3=way
    have w0:0≤way∧way<3:=by omega
    clear hw
    refine seq_step fun R hR=>?_
    walk_at "rd"
    intro l hl
    refine hR _ _ ?_
    clear hR
    have s2:=same_new (o:=.lst []) hl
    have hl2:upd H l (.lst []) l=some (.lst (([]:List Addr).map V.ref)):=upd_same
    generalize upd H l (.lst [])=H2 at hl2 s2 ⊢
    refine seq_step fun R hR=>?_
    refine for_step fun Z hZ=>?_
    walk_at "rd"
    intro q2 f2
    refine pickX [9,9,6] w0.1 w0.2 fun hi hm2=>?_
    have b2:1≤hi∧hi≤9∧(way = 2→hi≤6):=by
      have w5:way = 0∨way = 1∨way = 2:=by omega
      rcases w5 with rfl | rfl | rfl <;> simp at hm2 <;> omega
    have n2:=same_new (o:=.lst (([9,9,6]:List Int).map V.int)) f2
    have hl2:=n2 _ _ hl2
    have sm2:=s2.trans n2
    generalize upd H2 q2 (.lst (([9,9,6]:List Int).map V.int))=H3 at hl2 sm2 ⊢
    clear n2 f2 hm2
    refine ⟨hi,rfl,?_⟩
    obtain ⟨ms,em,hm3⟩:=cutV_ints ns (some 1) (some hi)
    have lms:(ms.length:Int)≤hi-1∧(ms = []∨ms.length+1≤ns.length):=by
      have e:=cut_len (ns.map V.int) 1 hi.toNat
      have e1:((hi.toNat:Nat):Int)=hi:=by omega
      rw [e1] at e
      have e2:cutV (ns.map V.int) (some ((1:Nat):Int)) (some hi)=ms.map V.int:=em
      rw [e2,List.length_map] at e
      have e3:ms.length≤ns.length-1:=by
        have:=congrArg List.length em
        have e4:=HT.sIx_nat (ns.map V.int).length 0 1
        unfold cutV at this
        rw [List.length_take,List.length_drop,List.length_map,List.length_map] at this
        have e5:HT.sIx ns.length 0 (some 1)=min 1 ns.length:=by
          have:=HT.sIx_nat ns.length 0 1
          simpa using this
        rw [e5] at this
        omega
      refine ⟨by omega,?_⟩
      cases ms with
      | nil=>exact .inl rfl
      | cons x r=>right; simp only [List.length_cons] at e3 ⊢; omega
    refine slL_at (sm2.seq hS) fun p hp=>?_
    have npl:p≠l:=fun z=>by rw [z,hl2] at hp; cases hp
    have n3:=same_new (o:=.lst (cutV (ns.map V.int) (some 1) (some hi))) hp
    have hl3:=n3 _ _ hl2
    have sm3:=sm2.trans n3
    have hp3:upd H3 p (.lst (cutV (ns.map V.int) (some 1) (some hi))) p=some (.lst (ms.map V.int)):=by rw [upd_same,em]
    generalize upd H3 p (.lst (cutV (ns.map V.int) (some 1) (some hi)))=H4 at hl3 sm3 hp3 ⊢
    clear n3 hp hl2 sm2 em
    refine ⟨p,rfl,⟨_,.of hp3⟩,hZ _ _ ?_⟩
    have hl0:H l=none:=hl
    refine for_list (K:=K) (a:=p) (xs:=ms.map V.int) (fun i σ H'=>∃ ps ss v3 v4,σ = [some (.ref a),some (.int way),some (.ref l),v3,v4]∧Same H H'∧H' p=some (.lst (ms.map V.int))∧SnL H' l ps ss∧ss.length=i∧(∀ s∈ss,(1≤s.1∧s.1≤1000000∧(way≠2→s.1≤1000))∧(1≤s.2.1∧s.2.1≤1000000)∧s.2.2 = 0)) ⟨[],[],none,none,rfl,sm3,hp3,⟨hl3,.nil⟩,rfl,fun q h=>absurd h List.not_mem_nil⟩ (fun i σ H' _ ⟨_,_,_,_,_,_,h,_⟩=>.of h) ?_ ?_
    · rintro i x σ H5 hx ⟨ps,ss,v3,v4,rfl,sm,hp5,SL,ls,al⟩
      obtain ⟨c,hc,rfl⟩:∃ c,ms[i]? = some c∧V.int c=x:=by simpa using hx
      have hil:i<ms.length:=(List.getElem?_eq_some_iff.mp hc).1
      show tSeq _ _ _ [some (.ref a),some (.int way),some (.ref l),some (.int c),v4] H5
      refine nx_step fun N hN=>?_
      refine seq_step fun R hR=>?_
      walk_at "rd"
      refine ⟨c,1,rfl,by decide,by decide,fun m H6 _ s6 m0 m1=>?_⟩
      intro q3 f3
      refine pickX [9,1000,1000000] w0.1 w0.2 fun z hz=>⟨_,rfl,z,rfl,?_,hR _ _ ?_⟩
      · have hm:=List.mem_of_getElem? hz
        simp only [List.mem_cons,List.not_mem_nil,or_false] at hm
        omega
      clear hR
      have z1:0<z∧z≤1000000:=by
        have hm:=List.mem_of_getElem? hz
        simp only [List.mem_cons,List.not_mem_nil,or_false] at hm
        omega
      have sA:=s6.trans (same_new (o:=.lst (([9,1000,1000000]:List Int).map V.int)) f3)
      generalize upd H6 q3 (.lst (([9,1000,1000000]:List Int).map V.int))=H7 at sA ⊢
      clear f3 hz s6
      have u0:=Int.emod_nonneg m (show z≠0 by omega)
      have u1:=Int.emod_lt_of_pos m z1.1
      generalize hb:1+m % z=bu
      have bub:1≤bu∧bu≤1000000:=by omega
      clear hb u0 u1 z1 m0 m1
      walk_at "rd"
      have S7:=SL.same sA
      refine ⟨tyL_at S7.hl,?_⟩
      refine ⟨c,2,rfl,by decide,by decide,fun m H8 _ s8 m0 m1=>?_⟩
      intro q4' f4
      refine pickX [9,1000,1000000] w0.1 w0.2 fun z hz=>⟨_,rfl,z,rfl,?_,?_⟩
      · have hm:=List.mem_of_getElem? hz
        simp only [List.mem_cons,List.not_mem_nil,or_false] at hm
        omega
      have z1:0<z∧z≤1000000:=by
        have hm:=List.mem_of_getElem? hz
        simp only [List.mem_cons,List.not_mem_nil,or_false] at hm
        omega
      have z2:way≠2→z≤1000:=fun w2=>by
        have w5:way = 0∨way = 1:=by omega
        rcases w5 with rfl | rfl <;> simp at hz <;> omega
      have sA:=(sA.trans s8).trans (same_new (o:=.lst (([9,1000,1000000]:List Int).map V.int)) f4)
      generalize upd H8 q4' (.lst (([9,1000,1000000]:List Int).map V.int))=H9 at sA ⊢
      clear f4 hz s8
      have u0:=Int.emod_nonneg m (show z≠0 by omega)
      have u1:=Int.emod_lt_of_pos m z1.1
      generalize hb:1+m % z=sh
      have shb:1≤sh∧sh≤1000000∧(way≠2→sh≤1000):=⟨by omega,by omega,fun w2=>by have:=z2 w2; omega⟩
      clear hb u0 u1 z1 m0 m1 z2
      intro r1 fr1 r2 fr2 r3 fr3
      have e1:=same_new (o:=.tup [.int 0,.int 1]) fr1
      have h1:upd H9 r1 (.tup [.int 0,.int 1]) r1=some (.tup (fq 0)):=upd_same
      generalize upd H9 r1 (.tup [.int 0,.int 1])=H10 at e1 h1 fr2 fr3 ⊢
      have e2:=same_new (o:=.tup [.int bu,.ref r1]) fr2
      have h2:upd H10 r2 (.tup [.int bu,.ref r1]) r2=some (.tup [.int bu,.ref r1]):=upd_same
      have h1:=e2 _ _ h1
      generalize upd H10 r2 (.tup [.int bu,.ref r1])=H11 at e2 h1 h2 fr3 ⊢
      have e3:=same_new (o:=.tup [.int sh,.ref r2]) fr3
      have h3:upd H11 r3 (.tup [.int sh,.ref r2]) r3=some (.tup [.int sh,.ref r2]):=upd_same
      have h1:=e3 _ _ h1
      have h2:=e3 _ _ h2
      generalize upd H11 r3 (.tup [.int sh,.ref r2])=H12 at e3 h1 h2 h3 ⊢
      have sA:=((sA.trans e1).trans e2).trans e3
      have S12:=SL.same sA
      have lp:=S12.len
      have kt:∀ b xs,H12 b=some (.tup xs)→upd H12 l (.lst (ps.map V.ref++[.ref r3])) b=some (.tup xs):=fun b xs e=>upd_tup S12.hl e
      refine app_at S12.hl (by rw [List.length_map]; omega) (hN _ _ ⟨ps++[r3],ss++[(sh,bu,0)],_,_,rfl,fun b o e=>?_,?_,⟨?_,?_⟩,by rw [List.length_append,ls]; rfl,fun s hs=>?_⟩)
      · rw [upd_ne (ne_of_none e hl0)]; exact sA _ _ (sm _ _ e)
      · rw [upd_ne npl]; exact sA _ _ hp5
      · rw [upd_same,List.map_append]; rfl
      · exact paired_snoc ⟨r2,r1,kt _ _ h3,kt _ _ h2,kt _ _ h1⟩ (Paired.mapP S12.r fun _ _ q=>q.keep kt)
      · rcases List.mem_append.mp hs with y | y
        · exact al s y
        · rw [List.mem_singleton.mp y]
          exact ⟨shb,bub,rfl⟩
    · rintro σ H5 ⟨ps,ss,v3,v4,rfl,sm,hp5,SL,ls,al⟩
      rw [List.length_map] at ls
      refine hR _ _ ?_
      walk_at "rd"
      refine k H5 l ps ss way sm hl0 SL ⟨by omega,fun w2=>by have:=b2.2.2 w2; omega,fun s hs=>(al s hs).1,fun s hs=>(al s hs).2.1,fun s hs=>(al s hs).2.2⟩ w0.1 w0.2 ?_
      rcases lms.2 with z | z
      · left
        rw [z] at ls
        exact List.length_eq_zero_iff.mp ls
      · right; omega
def cut1 (b c:Int):Int:=if c % 3 = 0 then 0 else mixF c 3 % b
def cut2 (b c:Int):Int:=if c % 3<2 then cut1 b c else mixF c 4 % b
def cutL (b c:Int):List Int:=[if cut2 b c<cut1 b c then cut2 b c else cut1 b c,(if cut2 b c > cut1 b c then cut2 b c else cut1 b c)-(if cut2 b c<cut1 b c then cut2 b c else cut1 b c),b-(if cut2 b c > cut1 b c then cut2 b c else cut1 b c)]
def cutsF (b c:Int):List Int:=(cutL b c).filter fun x=>decide (0<x)
theorem cut_bd {b:Int} (b1:1≤b) (c:Int):(0≤cut1 b c∧cut1 b c<b)∧0≤cut2 b c∧cut2 b c<b:=by
  have h1:0≤cut1 b c∧cut1 b c<b:=by
    unfold cut1
    split
    · omega
    · exact ⟨Int.emod_nonneg _ (by omega),Int.emod_lt_of_pos _ (by omega)⟩
  refine ⟨h1,?_⟩
  unfold cut2
  split
  · exact h1
  · exact ⟨Int.emod_nonneg _ (by omega),Int.emod_lt_of_pos _ (by omega)⟩
theorem filter_sum:∀ l:List Int,(∀ x∈l,0≤x)→(l.filter fun x=>decide (0<x)).sum=l.sum
  | [],_=>rfl
  | x :: r,h=>by
    have ih:=filter_sum r fun y hy=>h y (List.mem_cons_of_mem _ hy)
    have h0:=h x (by simp)
    by_cases c:0<x
    · rw [List.filter_cons_of_pos (by simpa using c),List.sum_cons,List.sum_cons,ih]
    · rw [List.filter_cons_of_neg (by simpa using c),List.sum_cons,ih]
      omega
theorem cuts_ok {b:Int} (b1:1≤b) (c:Int):(cutsF b c).sum=b∧(cutsF b c).length≤3∧∀ x∈cutsF b c,1≤x∧x≤b:=by
  obtain ⟨h1,h2⟩:=cut_bd b1 c
  have nn:∀ x∈cutL b c,0≤x∧x≤b:=by
    unfold cutL
    intro x hx
    simp only [List.mem_cons,List.not_mem_nil,or_false] at hx
    rcases hx with rfl | rfl | rfl <;> (repeat' split) <;> omega
  refine ⟨?_,?_,fun x hx=>?_⟩
  · unfold cutsF
    rw [filter_sum _ fun x hx=>(nn x hx).1]
    unfold cutL
    simp only [List.sum_cons,List.sum_nil]
    omega
  · exact Nat.le_trans (List.length_filter_le _ _) (by unfold cutL; simp)
  · obtain ⟨m,p⟩:=List.mem_filter.mp hx
    have:=nn x m
    have p:0<x:=by simpa using p
    omega
def spCuts:Sp:=fun vs H Q _=>∃ b c,vs = [.int b,.int c]∧1≤b∧∀ p H',Same H H'→H p=none→H' p=some (.lst ((cutsF b c).map V.int))→Q (.ref p) H'
theorem d__law_cuts (T:Txt K mg c_Tide):Def P w K mg base (CXX P w) 2 "_law_cuts" ["_law_burst", "_law_cell"] spCuts:=by
  have D__law_mix:=d__law_mix (P:=P) (w:=w) (base:=base) T
  refine T.src__law_cuts.okN (k:=1) sc__law_cuts (fun vs H Q E h=>?_) (fun f cdv A outer s H vs Q E hr h=>?_)
  · obtain ⟨b,c,rfl,_⟩:=h
    rfl
  · obtain ⟨b,c,rfl,b1,k⟩:=h
    refine ⟨_,(pss_cons (ps_set (i:=2) sc__law_cuts.nd rfl (by first|left;rfl|right;rfl) (pe_op op_mod (pe_callX D__law_mix (hr.mono (by decide)) rfl passN (pa_cons (pv 1) (pa_cons pe_int pa_nil))) (pv 0))) (pss_cons (ps_set (i:=3) sc__law_cuts.nd rfl (by first|left;rfl|right;rfl) (pe_op op_mod (pe_callX D__law_mix (hr.mono (by decide)) rfl passN (pa_cons (pv 1) (pa_cons pe_int pa_nil))) (pv 0))) (pss_cons (ps_if (pt_cmpR op_eq (pe_op op_mod (pv 1) pe_int) pe_int (nomark _)) (pss_one (ps_set (i:=2) sc__law_cuts.nd rfl (by first|left;rfl|right;rfl) pe_int)) pss_nil) (pss_cons (ps_if (pt_cmpR op_lt (pe_op op_mod (pv 1) pe_int) pe_int (nomark _)) (pss_one (ps_set (i:=3) sc__law_cuts.nd rfl (by first|left;rfl|right;rfl) (pv 2))) pss_nil) (pss_cons (ps_set (i:=4) sc__law_cuts.nd rfl (by first|left;rfl|right;rfl) (pe_lst (pa_cons (pe_callB (call_min2 rfl) rfl T.no_min boot_min (pa_cons (pv 2) (pa_cons (pv 3) pa_nil))) (pa_cons (pe_op op_sub (pe_callB (call_max2 rfl) rfl T.no_max boot_max (pa_cons (pv 2) (pa_cons (pv 3) pa_nil))) (pe_callB (call_min2 rfl) rfl T.no_min boot_min (pa_cons (pv 2) (pa_cons (pv 3) pa_nil)))) (pa_cons (pe_op op_sub (pv 0) (pe_callB (call_max2 rfl) rfl T.no_max boot_max (pa_cons (pv 2) (pa_cons (pv 3) pa_nil)))) pa_nil))))) (pss_one (ps_ret (pe_lc ["_law_length"] [] rfl (by with_unfolding_all rfl) (by decide +kernel) rfl (by decide +kernel) (by exact True.intro) (by with_unfolding_all rfl) True.intro (pi_listK K rfl (pv 4)) (fun _ _ _=>(pg_name (i:=0) (show (["_law_length"]:List Str).Nodup from by decide +kernel) rfl (by first|left;rfl|right;rfl))) (fun _ _ _=>(pifs_one (pt_cmpR op_gt (pv 0) pe_int (nomark _)))) (fun _ _ _=>(pv 0)))))))))),?_⟩
    show tSeq _ _ _ [some (.int b),some (.int c),none,none,none] H
    refine seq_step fun R hR=>?_
    walk_at "rd"
    refine ⟨c,3,rfl,by decide,by decide,fun m H1 em s1 _ _=>?_⟩
    subst em
    refine ⟨_,rfl,by omega,hR _ _ ?_⟩
    clear hR
    refine seq_step fun R hR=>?_
    walk_at "rd"
    refine ⟨c,4,rfl,by decide,by decide,fun m H2 em s2 _ _=>?_⟩
    subst em
    have s2:=s1.trans s2
    clear s1
    refine ⟨_,rfl,by omega,hR _ _ ?_⟩
    clear hR
    refine seq_step fun R hR=>?_
    have k1:R [some (.int b),some (.int c),some (.int (cut1 b c)),some (.int (mixF c 4 % b)),none] H2:=by
      refine hR _ _ ?_
      clear hR
      refine seq_step fun R hR=>?_
      have k2:R [some (.int b),some (.int c),some (.int (cut1 b c)),some (.int (cut2 b c)),none] H2:=by
        refine hR _ _ ?_
        clear hR
        refine seq_step fun R hR=>?_
        walk_at "rd"
        intro p fp
        refine hR _ _ ?_
        clear hR
        have s3:=s2.trans (same_new (o:=.lst ((cutL b c).map V.int)) fp)
        have hp:upd H2 p (.lst ((cutL b c).map V.int)) p=some (.lst ((cutL b c).map V.int)):=upd_same
        show tRet _ _ [some (.int b),some (.int c),some (.int (cut1 b c)),some (.int (cut2 b c)),some (.ref p)] (upd H2 p (.lst ((cutL b c).map V.int)))
        generalize upd H2 p (.lst ((cutL b c).map V.int))=H3 at s3 hp ⊢
        have cl:(cutL b c).length = 3:=rfl
        unfold cutsF at k
        generalize cutL b c=C at hp cl k ⊢
        walk_at "rd"
        refine ⟨⟨_,.of hp⟩,fun D hD=>?_⟩
        show CompG _ _ _ _ D [none] _ _
        refine comp_walk (xs:=C.map V.int) (fun m τ H'=>(∃ v1,τ = [v1])∧Same H3 H'∧H' D=some (.lst (((C.take m).filter fun x=>decide (0<x)).map V.int))) ⟨⟨none,rfl⟩,same_new hD,by rw [List.take_zero]; exact upd_same⟩ (fun m τ H' _ ⟨_,sm,_⟩=>.of (sm _ _ hp)) ?_ ?_
        · rintro m x τ H' hx ⟨⟨v1,rfl⟩,sm',hDl⟩
          obtain ⟨q,hq,rfl⟩:∃ p,C[m]? = some p∧V.int p=x:=by simpa using hx
          have hm:m<C.length:=(List.getElem?_eq_some_iff.mp hq).1
          have ll:((C.take m).filter fun x=>decide (0<x)).length≤m:=Nat.le_trans (List.length_filter_le _ _) (by rw [List.length_take]; omega)
          walk_at "rd"
          refine ite2 (fun c1=>?_) fun c1=>?_
          · refine ⟨_,hDl,line_lt (by rw [List.length_map]; omega),fun b o e=>?_,?_⟩
            · rw [upd_ne (ne_of_none e hD)]; exact sm' _ _ e
            · rw [upd_same,L2.take_succ_of hq,List.filter_append,List.filter_cons_of_pos (by simpa using c1),List.filter_nil,List.map_append]; rfl
          · refine ⟨sm',?_⟩
            rw [hDl,L2.take_succ_of hq,List.filter_append,List.filter_cons_of_neg (by simpa using c1),List.filter_nil,List.append_nil]
        rintro τ H4 ⟨_,s4,hDl⟩
        rw [List.length_map,List.take_length] at hDl
        exact k D H4 (s3.trans s4) (s3.free hD) hDl
      clear hR
      walk_at "rd"
      refine ite2 (fun c1=>?_) fun c1=>?_
      · unfold cut2 at k2
        rw [if_pos c1] at k2
        exact k2
      · unfold cut2 at k2
        rw [if_neg c1] at k2
        exact k2
    clear hR
    walk_at "rd"
    refine ite2 (fun c1=>?_) fun c1=>?_
    · unfold cut1 at k1
      rw [if_pos c1] at k1
      exact k1
    · unfold cut1 at k1
      rw [if_neg c1] at k1
      exact k1
def totW (qs:List Q4) (w:Int):Int:=(qs.map fun q=>if q.2.1=w then q.2.2.1 else 0).sum
theorem totW_snoc (qs:List Q4) (q:Q4) (w:Int):totW (qs++[q]) w=totW qs w+(if q.2.1=w then q.2.2.1 else 0):=by
  unfold totW
  rw [List.map_append,List.sum_append,List.map_singleton,List.sum_singleton]
structure RowB (A:Int) (ss:List Sw.S3) (cl:Nat→List Int) (t j:Nat) (qs:List Q4):Prop where
  q:∀ q∈qs,q.1=A∧(∃ i:Nat,i<ss.length∧q.2.1=(i:Int)∧q.2.2.2=Sw.shS ss i)∧1≤q.2.2.1∧q.2.2.1≤1000000
  c:∀ i:Nat,i<ss.length→totW qs (i:Int)=((cl i).take (t+if i<j then 1 else 0)).sum
  n:qs.length≤t*ss.length+j
theorem take_sum {l:List Int} {t:Nat} {x:Int} (h:l[t]? = some x):(l.take (t+1)).sum=(l.take t).sum+x:=by
  rw [L2.take_succ_of h,List.sum_append,List.sum_singleton]
theorem RowB.more {A:Int} {ss:List Sw.S3} {cl:Nat→List Int} {t j:Nat} {qs:List Q4} (h:RowB A ss cl t j qs) (hj:j<ss.length) {x:Int} (hx:(cl j)[t]? = some x) (x1:1≤x) (x2:x≤1000000):RowB A ss cl t (j+1) (qs++[(A,(j:Int),x,Sw.shS ss j)]):=by
  refine ⟨fun q hq=>?_,fun i hi=>?_,by rw [List.length_append]; have:=h.n; simp only [List.length_cons,List.length_nil]; omega⟩
  · rcases List.mem_append.mp hq with z | z
    · exact h.q q z
    · rw [List.mem_singleton.mp z]
      exact ⟨rfl,⟨j,hj,rfl,rfl⟩,x1,x2⟩
  · rw [totW_snoc,h.c i hi]
    show _ + (if (j:Int)=(i:Int) then x else 0) = _
    rcases Nat.lt_trichotomy i j with z | z | z
    · rw [if_neg (show ¬ (j:Int)=(i:Int) by omega),if_pos z,if_pos (show i<j+1 by omega),Int.add_zero]
    · subst z
      rw [if_pos (show (i:Int)=(i:Int) from rfl),if_neg (Nat.lt_irrefl _),if_pos (show i<i+1 by omega),Nat.add_zero,take_sum hx]
    · rw [if_neg (show ¬ (j:Int)=(i:Int) by omega),if_neg (show ¬ i<j by omega),if_neg (show ¬ i<j+1 by omega),Int.add_zero]
theorem RowB.skip {A:Int} {ss:List Sw.S3} {cl:Nat→List Int} {t j:Nat} {qs:List Q4} (h:RowB A ss cl t j qs) (hx:(cl j).length≤t):RowB A ss cl t (j+1) qs:=by
  refine ⟨h.q,fun i hi=>?_,by have:=h.n; omega⟩
  rw [h.c i hi]
  rcases Nat.lt_trichotomy i j with z | z | z
  · rw [if_pos z,if_pos (by omega)]
  · subst z
    rw [if_neg (Nat.lt_irrefl _),if_pos (by omega),List.take_of_length_le (by omega),List.take_of_length_le (by omega)]
  · rw [if_neg (by omega),if_neg (by omega)]
theorem RowB.turn {A:Int} {ss:List Sw.S3} {cl:Nat→List Int} {t:Nat} {qs:List Q4} (h:RowB A ss cl t ss.length qs):RowB A ss cl (t+1) 0 qs:=by
  refine ⟨h.q,fun i hi=>?_,by have:=h.n; rw [Nat.add_mul]; omega⟩
  rw [h.c i hi,if_pos hi,if_neg (Nat.not_lt_zero _)]
def spRow48 (K:PySem.W.Frag):Sp:=fun vs H Q _=>∃ (a:Addr) (ns:List Int) (l:Addr) (ps:List Addr) (ss:List Sw.S3) (A:Int),vs = [.ref a,.ref l,.int A]∧SqL K H a (ns.map V.int)∧SnL H l ps ss∧ss.length≤8∧(∀ s∈ss,1≤s.2.1∧s.2.1≤1000000)∧(ss = []∨ss.length+1≤ns.length)∧∀ H' r rp qs,Same H H'→Row H' r rp qs→RowB A ss (fun i=>cutsF (Sw.buS ss i) (cellI ns (1+i))) 3 0 qs→Q (.ref r) H'
theorem d__law_row (T:Txt K mg c_Tide):Def P w K mg base (CXX P w) 3 "_law_row" ["_law_script", "_law_senders_here", "_law_at"] (spRow48 K):=by
  have D__law_cuts:=d__law_cuts (P:=P) (w:=w) (base:=base) T
  refine T.src__law_row.okN (k:=2) sc__law_row (fun vs H Q E h=>?_) (fun f cdv A outer s H vs Q E hr h=>?_)
  · obtain ⟨a,ns,l,ps,ss,A,rfl,_⟩:=h
    rfl
  · obtain ⟨a,ns,l,ps,ss,A1,rfl,hS,SL,n8,sb,nl,k⟩:=h
    refine ⟨_,(pss_cons (ps_set (i:=3) sc__law_row.nd rfl (by first|left;rfl|right;rfl) (pe_lst pa_nil)) (pss_cons (ps_for PassesOwn.never rfl (pi_range1 rfl T.no_range (pa_cons pe_int pa_nil)) (pg_name (i:=4) sc__law_row.nd rfl (by first|left;rfl|right;rfl)) (pss_one (ps_for PassesOwn.never rfl (pi_enumK K rfl rfl T.no_enumerate (pa_cons (pv 1) pa_nil)) (pg_tupK (n:=2) K rfl rfl (pgs_cons (pg_name (i:=5) sc__law_row.nd rfl (by first|left;rfl|right;rfl)) (pgs_cons (pg_name (i:=6) sc__law_row.nd rfl (by first|left;rfl|right;rfl)) pgs_nil))) (pss_cons (ps_set (i:=7) sc__law_row.nd rfl (by first|left;rfl|right;rfl) (pe_callX D__law_cuts (hr.mono (by decide)) rfl passN (pa_cons (pe_ix (ix_tupK K rfl) (pe_ix (ix_tupK K rfl) (pv 6) pe_int (fun _ _=>rfl)) pe_int (fun _ _=>rfl)) (pa_cons (pe_ix (ix_listK K rfl) (pv 0) (pe_op op_add pe_int (pv 5)) (fun _ _=>rfl)) pa_nil)))) (pss_one (ps_if (pt_cmpR op_lt (pv 4) (pe_callB (call_lenK K rfl) rfl T.no_len boot_len (pa_cons (pv 7) pa_nil)) (nomark _)) (pss_one (ps_expr (pe_bm PySem.F.plainAttrs_list PySem.F.slot_list_append PySem.F.type_list_append mt_append (pv 3) (pa_cons (pe_tup (pa_cons (pv 2) (pa_cons (pv 5) (pa_cons (pe_ix (ix_listK K rfl) (pv 7) (pv 4) (fun _ _=>rfl)) (pa_cons (pe_ix (ix_tupK K rfl) (pv 6) pe_int (fun _ _=>rfl)) pa_nil))))) pa_nil)))) pss_nil)))))) (pss_one (ps_ret (pv 3))))),?_⟩
    show tSeq _ _ _ [some (.ref a),some (.ref l),some (.int A1),none,none,none,none,none] H
    have len:=SL.len
    refine seq_step fun R hR=>?_
    walk_at "rd"
    intro r fr
    refine hR _ _ ?_
    clear hR
    have s1:=same_new (o:=.lst []) fr
    have R1:Row (upd H r (.lst [])) r [] []:=⟨upd_same,.nil⟩
    generalize upd H r (.lst [])=H1 at s1 R1 ⊢
    refine seq_step fun R hR=>?_
    refine for_step fun Z hZ=>?_
    walk_at "rd"
    refine hZ _ _ ?_
    clear hZ
    refine for_range (fun t σ H'=>∃ rp qs v4 v5 v6 v7,σ = [some (.ref a),some (.ref l),some (.int A1),some (.ref r),v4,v5,v6,v7]∧Same H H'∧Row H' r rp qs∧RowB A1 ss (fun i=>cutsF (Sw.buS ss i) (cellI ns (1+i))) t 0 qs) ⟨[],[],none,none,none,none,rfl,s1,R1,⟨fun q h=>absurd h List.not_mem_nil,fun i hi=>by rw [if_neg (Nat.not_lt_zero _)]; rfl,Nat.zero_le _⟩⟩ ?_ ?_
    · clear s1 R1
      rintro t σ H2 ht ⟨rp,qs,v4,v5,v6,v7,rfl,sm,RR,RB⟩
      have ht:t<3:=ht
      show tFor _ _ _ _ [some (.ref a),some (.ref l),some (.int A1),some (.ref r),some (.int (0+(t:Int))),v5,v6,v7] H2
      refine nx_step fun N hN=>?_
      refine for_step fun Z hZ=>?_
      walk_at "rd"
      refine ⟨⟨_,.of (sm _ _ SL.hl)⟩,hZ _ _ ?_⟩
      clear hZ
      refine for_enum (K:=K) (a:=l) (xs:=ps.map V.ref) (fun j σ H'=>∃ rp qs v5 v6 v7,σ = [some (.ref a),some (.ref l),some (.int A1),some (.ref r),some (.int (0+(t:Int))),v5,v6,v7]∧Same H H'∧Row H' r rp qs∧RowB A1 ss (fun i=>cutsF (Sw.buS ss i) (cellI ns (1+i))) t j qs) ⟨rp,qs,v5,v6,v7,rfl,sm,RR,RB⟩ (fun i σ H' _ ⟨_,_,_,_,_,_,sm,_⟩=>.of (sm _ _ SL.hl)) ?_ ?_
      · clear sm RR RB
        rintro j x σ H3 pt hx ⟨rp,qs,v5,v6,v7,rfl,sm,RR,RB⟩ hpt
        obtain ⟨pp,hpp,rfl⟩:∃ p,ps[j]? = some p∧V.ref p=x:=by simpa using hx
        obtain ⟨sd,hsd,hS2⟩:=paired_get SL.r hpp
        have hj:j<ss.length:=(List.getElem?_eq_some_iff.mp hsd).1
        refine ⟨pt,_,rfl,.of upd_same,rfl,_,_,rfl,_,_,rfl,rfl,?_⟩
        have s3:=same_new (o:=.tup [.int j,.ref pp]) hpt
        have sm:=sm.trans s3
        have RR:=RR.same s3
        generalize upd H3 pt (.tup [.int j,.ref pp])=H4 at sm RR ⊢
        clear s3 hpt
        obtain ⟨pl,pr,h1,h2,h3⟩:=hS2
        have h1:=sm _ _ h1
        have h2:=sm _ _ h2
        show tSeq _ _ _ [some (.ref a),some (.ref l),some (.int A1),some (.ref r),some (.int (0+(t:Int))),some (.int j),some (.ref pp),v7] H4
        refine nx_step fun N hN=>?_
        have eb:Sw.buS ss j=sd.2.1:=by unfold Sw.buS; rw [hsd]; rfl
        have es:Sw.shS ss j=sd.1:=by unfold Sw.shS; rw [hsd]; rfl
        have b1:=sb sd (List.mem_of_getElem? hsd)
        refine seq_step fun R hR=>?_
        walk_at "rd"
        refine ixT_at (.of h1) (v:=.ref pl) rfl ?_
        refine ixT_at (.of h2) (v:=.int sd.2.1) rfl ?_
        have hns:1+(j:Int)<ns.length:=by
          rcases nl with z | z
          · rw [z] at hj; exact absurd hj (Nat.not_lt_zero _)
          · omega
        refine ixL_at (sm.seq hS) (cellAt_get (by omega) hns) ?_
        refine ⟨sd.2.1,cellI ns (1+(j:Int)),rfl,b1.1,fun D H5 s5 _ hD=>hR _ _ ?_⟩
        clear hR
        obtain ⟨c1,c2,c3⟩:=cuts_ok b1.1 (cellI ns (1+(j:Int)))
        have sm:=sm.trans s5
        have RR:=RR.same s5
        have h1:=s5 _ _ h1
        clear s5 h2 h3
        have eC:cutsF (Sw.buS ss j) (cellI ns (1+(j:Int)))=cutsF sd.2.1 (cellI ns (1+(j:Int))):=by rw [eb]
        generalize cutsF sd.2.1 (cellI ns (1+(j:Int)))=C at hD c1 c2 c3 eC
        walk_at "rd"
        refine len_at (.of hD) ⟨_,rfl,?_⟩
        rw [List.length_map]
        refine ite2 (fun cc=>?_) fun cc=>?_
        · have tl:t<C.length:=by omega
          obtain ⟨x,hx⟩:∃ x,C[t]? = some x:=⟨_,List.getElem?_eq_getElem tl⟩
          have x1:=c3 x (List.mem_of_getElem? hx)
          refine ⟨tyL_at RR.hl,?_⟩
          refine ixL_at (.of hD) (v:=.int x) (by rw [Int.zero_add]; exact atI_nat (by rw [List.getElem?_map,hx]; rfl)) ?_
          refine ixT_at (.of h1) (v:=.int sd.1) rfl ?_
          intro tp ftp
          have s6:=same_new (o:=.tup [.int A1,.int j,.int x,.int sd.1]) ftp
          have htp:upd H5 tp (.tup [.int A1,.int j,.int x,.int sd.1]) tp=some (.tup (q4 (A1,(j:Int),x,Sw.shS ss j))):=by rw [upd_same,es]; rfl
          have R6:=RR.same s6
          have sm:=sm.trans s6
          generalize upd H5 tp (.tup [.int A1,.int j,.int x,.int sd.1])=H6 at sm htp R6 ⊢
          have kt:∀ b xs,H6 b=some (.tup xs)→upd H6 r (.lst (rp.map V.ref++[.ref tp])) b=some (.tup xs):=fun b xs e=>upd_tup R6.hl e
          have lr:=R6.r.len
          have nn:=RB.n
          have n24:qs.length≤24:=by
            have:t*ss.length≤2*8:=Nat.mul_le_mul (by omega) n8
            omega
          refine app_at R6.hl (by rw [List.length_map]; omega) (hN _ _ ⟨rp++[tp],qs++[(A1,(j:Int),x,Sw.shS ss j)],_,_,_,rfl,fun b o e=>?_,⟨?_,?_⟩,RB.more hj (by rw [eC]; exact hx) x1.1 (by omega)⟩)
          · rw [upd_ne (ne_of_none e fr)]; exact sm _ _ e
          · rw [upd_same,List.map_append]; rfl
          · exact Tups.snoc (kt _ _ htp) (R6.r.keep kt)
        · exact hN _ _ ⟨rp,qs,_,_,_,rfl,sm,RR,RB.skip (by rw [eC]; omega)⟩
      · rintro σ H3 ⟨rp,qs,v5,v6,v7,rfl,sm,RR,RB⟩
        rw [List.length_map,len] at RB
        exact hN _ _ ⟨rp,qs,_,_,_,_,rfl,sm,RR,RB.turn⟩
    · rintro σ H2 ⟨rp,qs,v4,v5,v6,v7,rfl,sm,RR,RB⟩
      refine hR _ _ ?_
      walk_at "rd"
      exact k H2 r rp qs sm RR RB
theorem fit24:Sw.Fit 24 1000 15 25:=⟨by decide,by decide,by decide,by decide,⟨10,by decide,by decide⟩,by decide,by decide⟩
theorem bst_plan {way:Int} {ss:List Sw.S3} (B:Bst way ss):Sw.Plan ss 1:=by
  refine ⟨B.n,by decide,by decide,fun s hs=>(B.s s hs).1,fun s hs=>⟨(B.b s hs).1,by have:=(B.b s hs).2; omega⟩,fun s hs=>by rw [B.r s hs]; exact Rat.le_refl,fun s hs=>by rw [B.r s hs]; exact Sw.Grd.int (by decide) 0,?_,?_⟩
  · have e:(ss.map fun s=>s.2.2)=ss.map fun _=>(0:Rat):=List.map_congr_left fun s hs=>B.r s hs
    rw [e,Sw.tq_zero]
    decide
  · have:=Sw.sum_le (M:=1000000) (l:=ss.map fun s=>s.1) fun x hx=>by
      obtain ⟨s,hs,rfl⟩:=List.mem_map.mp hx
      exact (B.s s hs).2.1
    rw [List.length_map] at this
    have n:=B.n
    omega
theorem bst_r0 {way:Int} {ss:List Sw.S3} (B:Bst way ss) (i:Nat):Sw.rtS ss i = 0:=by
  unfold Sw.rtS
  cases e:ss[i]? with
  | none=>rfl
  | some s=>exact B.r s (List.mem_of_getElem? e)
theorem bst_sh {way:Int} {ss:List Sw.S3} (B:Bst way ss) {i:Nat} (hi:i<ss.length):1≤Sw.shS ss i∧Sw.shS ss i≤1000000∧(way≠2→Sw.shS ss i≤1000):=by
  obtain ⟨s,hs,e,_,_⟩:=Sw.at_mem hi
  rw [e]
  exact B.s s hs
theorem bst_bu {way:Int} {ss:List Sw.S3} (B:Bst way ss) {i:Nat} (hi:i<ss.length):1≤Sw.buS ss i∧Sw.buS ss i≤1000000:=by
  obtain ⟨s,hs,_,e,_⟩:=Sw.at_mem hi
  rw [e]
  exact B.b s hs
theorem pw_all {A:Int}:∀ {qs:List Q4},(∀ q∈qs,q.1=A)→qs.Pairwise (fun a b=>a.1≤b.1)
  | [],_=>.nil
  | x :: r,h=>.cons (fun y hy=>by rw [h x (by simp),h y (List.mem_cons_of_mem _ hy)]; exact Int.le_refl _) (pw_all fun q hq=>h q (List.mem_cons_of_mem _ hq))
theorem bst_good {way A:Int} {ss:List Sw.S3} {cl:Nat→List Int} {qs:List Q4} (B:Bst way ss) (R:RowB A ss cl 3 0 qs) (A0:0≤A) (A1:A<100000000000):∃ n M a c,Sw.Good n M a c qs:=by
  have nn:=R.n
  have sh:∀ q∈qs,1≤q.2.2.2∧q.2.2.2≤1000000∧(way≠2→q.2.2.2≤1000):=fun q hq=>by
    obtain ⟨_,⟨i,hi,_,e⟩,_⟩:=R.q q hq
    rw [e]
    exact bst_sh B hi
  have pc:∀ q∈qs,q.1=A∧1≤q.2.2.1∧q.2.2.1≤1000000:=fun q hq=>⟨(R.q q hq).1,(R.q q hq).2.2⟩
  by_cases w2:way = 2
  · have:=B.w2 w2
    exact ⟨16,1000000,24,44,Sw.fit16,by omega,fun q hq=>by have:=sh q hq; have:=pc q hq; exact ⟨by omega,by omega,by omega,by omega,by omega,by omega⟩,pw_all fun q hq=>(pc q hq).1⟩
  · have:=B.n
    exact ⟨24,1000,15,25,fit24,by omega,fun q hq=>by have:=sh q hq; have:=this.2.2 w2; have:=pc q hq; exact ⟨by omega,by omega,by omega,by omega,by omega,by omega⟩,pw_all fun q hq=>(pc q hq).1⟩
theorem cum_tot (qs:List Q4) (w:Int):Sw.cumF qs w qs.length=totW qs w:=by unfold Sw.cumF totW; rw [List.take_length]
theorem last_en {A:Int} {ss:List Sw.S3} {cl:Nat→List Int} {qs:List Q4} (R:RowB A ss cl 3 0 qs) (us:List (Rat×Rat)) (lu:us.length=qs.length):∀ i,i≤qs.length→∀ w:Int,(Sw.cumF qs w i = 0∧((qs.zip us).take i).foldl (fun m x=>setE m x.1.2.1 x.2.2) (fun _=>none) w=none)∨∃ p q u,p<i∧qs[p]? = some q∧q.2.1=w∧Sw.cumF qs w (p+1)=Sw.cumF qs w i∧us[p]? = some u∧((qs.zip us).take i).foldl (fun m x=>setE m x.1.2.1 x.2.2) (fun _=>none) w=some u.2
  | 0,_,w=>.inl ⟨rfl,rfl⟩
  | i+1,hi,w=>by
    have ih:=last_en R us lu i (by omega) w
    obtain ⟨q,hq⟩:∃ q,qs[i]? = some q:=⟨_,List.getElem?_eq_getElem (by omega)⟩
    obtain ⟨u,hu⟩:∃ u,us[i]? = some u:=⟨_,List.getElem?_eq_getElem (by omega)⟩
    have hz:(qs.zip us)[i]? = some (q,u):=by rw [List.getElem?_zip_eq_some]; exact ⟨hq,hu⟩
    rw [L2.take_succ_of hz,List.foldl_append]
    show _∨∃ p q' u',p<i+1∧qs[p]? = some q'∧q'.2.1=w∧Sw.cumF qs w (p+1)=Sw.cumF qs w (i+1)∧us[p]? = some u'∧setE _ q.2.1 u.2 w=some u'.2
    by_cases c:q.2.1=w
    · right
      exact ⟨i,q,u,by omega,hq,c,rfl,hu,by unfold setE; rw [if_pos c.symm]⟩
    · have e1:Sw.cumF qs w (i+1)=Sw.cumF qs w i:=by rw [Sw.cumF_succ hq,if_neg c,Int.add_zero]
      rcases ih with ⟨h1,h2⟩ | ⟨p,q',u',h1,h2,h3,h4,h5,h6⟩
      · left
        refine ⟨by rw [e1]; exact h1,?_⟩
        show setE _ q.2.1 u.2 w=none
        unfold setE
        rw [if_neg (fun z=>c z.symm)]
        exact h2
      · right
        refine ⟨p,q',u',by omega,h2,h3,by rw [e1]; exact h4,h5,?_⟩
        unfold setE
        rw [if_neg (fun z=>c z.symm)]
        exact h6
theorem span_end {n:Nat} {M:Int} {a c:Nat} {qs:List Q4} (g:Sw.Good n M a c qs) {p:Nat} {q:Q4} {u:Rat×Rat} (e:qs[p]? = some q) (hu:(Sw.spansF (Sw.endsF (Sw.flowF (fsOf qs (Sw.Ti.nil.tags qs)) (2*n+1) 0 0)) 0 (fun _=>none) qs)[p]? = some u):∃ f k1 k2,(fsOf qs (Sw.Ti.nil.tags qs))[p]? = some f∧Sw.Lives (fsOf qs (Sw.Ti.nil.tags qs)) p f k1 k2∧u.2=(Sw.stS (fsOf qs (Sw.Ti.nil.tags qs)) k2).1:=by
  have hi:=(List.getElem?_eq_some_iff.mp e).1
  obtain ⟨k1,k2,S⟩:=g.span hi
  obtain ⟨f,hf,L⟩:=S.ex
  have itk:(qs.take p).length=p:=by rw [List.length_take]; omega
  have e1:=Sw.spansF_snoc (en:=Sw.endsF (Sw.flowF (fsOf qs (Sw.Ti.nil.tags qs)) (2*n+1) 0 0)) (i:=0) (ah:=fun _=>none) (l:=qs.take p) (q:=q)
  rw [itk,Nat.zero_add,S.en,S.be q e] at e1
  have hent:(Sw.spansF (Sw.endsF (Sw.flowF (fsOf qs (Sw.Ti.nil.tags qs)) (2*n+1) 0 0)) 0 (fun _=>none) qs)[p]? = some ((Sw.stS (fsOf qs (Sw.Ti.nil.tags qs)) k1).1,(Sw.stS (fsOf qs (Sw.Ti.nil.tags qs)) k2).1):=by
    have h1:((Sw.spansF (Sw.endsF (Sw.flowF (fsOf qs (Sw.Ti.nil.tags qs)) (2*n+1) 0 0)) 0 (fun _=>none) qs).take (p+1))[p]? = (Sw.spansF (Sw.endsF (Sw.flowF (fsOf qs (Sw.Ti.nil.tags qs)) (2*n+1) 0 0)) 0 (fun _=>none) qs)[p]?:=by rw [List.getElem?_take,if_pos (by omega)]
    rw [← h1,← Sw.spans_take,L2.take_succ_of e,e1]
    have l0:(Sw.spansF (Sw.endsF (Sw.flowF (fsOf qs (Sw.Ti.nil.tags qs)) (2*n+1) 0 0)) 0 (fun _=>none) (qs.take p)).length=p:=by rw [Sw.spansF_len,itk]
    rw [List.getElem?_append_right (by omega),l0,Nat.sub_self]
    rfl
  rw [hent] at hu
  cases hu
  exact ⟨f,k1,k2,hf,L,rfl⟩
theorem ends_at {way A:Int} {ss:List Sw.S3} {cl:Nat→List Int} {qs:List Q4} {n:Nat} {M:Int} {a c m:Nat} (B:Bst way ss) (R:RowB A ss cl 3 0 qs) (hc:∀ i,i<ss.length→((cl i).take 3).sum=Sw.buS ss i) (g:Sw.Good n M a c qs) (A0:0≤A) (en:EndS ss m) {i:Nat} (hi:i<ss.length):((qs.zip (Sw.spansF (Sw.endsF (Sw.flowF (fsOf qs (Sw.Ti.nil.tags qs)) (2*n+1) 0 0)) 0 (fun _=>none) qs)).foldl (fun m x=>setE m x.1.2.1 x.2.2) (fun _=>none)) (i:Int)=some ((A:Rat)+Sw.waS ss m i):=by
  have P:=bst_plan B
  have lu:(Sw.spansF (Sw.endsF (Sw.flowF (fsOf qs (Sw.Ti.nil.tags qs)) (2*n+1) 0 0)) 0 (fun _=>none) qs).length=qs.length:=Sw.spansF_len
  have tot:∀ j,j<ss.length→Sw.cumF qs (j:Int) qs.length=Sw.buS ss j:=fun j hj=>by
    rw [cum_tot,R.c j hj,if_neg (Nat.not_lt_zero _)]
    exact hc j hj
  have h:=last_en R _ lu qs.length (Nat.le_refl _) (i:Int)
  rw [List.take_of_length_le (by rw [List.length_zip]; omega)] at h
  rcases h with ⟨z,_⟩ | ⟨p,q,u,_,hq,wq,lc,hu,ho⟩
  · rw [tot i hi] at z
    have:=bst_bu B hi
    omega
  · rw [ho]
    congr 1
    obtain ⟨f,k1,k2,hf,L,eu⟩:=span_end g hq hu
    have o:Sw.Once A (fun w=>Sw.shS ss w.toNat) qs:=by
      refine ⟨fun q hq=>(R.q q hq).1,fun q hq=>?_⟩
      obtain ⟨_,⟨j,hj,e1,e2⟩,_⟩:=R.q q hq
      rw [e2,e1]
      rfl
    have hf':=Sw.once_fs g o hq
    rw [hf] at hf'
    cases hf'
    rw [wq] at L
    have nd:((List.range ss.length).map fun j:Nat=>(j:Int)).Nodup:=by
      unfold List.Nodup
      rw [List.pairwise_map]
      exact List.nodup_range.imp fun h z=>h (by omega)
    have e:=Sw.once_end g o A0 nd (fun q hq=>by
      obtain ⟨_,⟨j,hj,e1,_⟩,_⟩:=R.q q hq
      rw [e1]
      exact List.mem_map.mpr ⟨j,List.mem_range.mpr hj,rfl⟩) (fun w hw=>by
      obtain ⟨j,hj,rfl⟩:=List.mem_map.mp hw
      have:=bst_sh B (List.mem_range.mp hj)
      show 0<Sw.shS ss j
      omega) hq (by rw [wq]; exact L) (by rw [wq]; exact lc)
    rw [eu,e,Sw.burst_wait P (bst_r0 B) en hi]
    congr 1
    unfold Sw.FS
    rw [List.map_map,wq,tot i hi]
    congr 1
    refine List.map_congr_left fun j hj=>?_
    show (Sw.shS ss j:Rat)*min ((Sw.buS ss i:Rat) / (Sw.shS ss i:Rat)) ((Sw.cumF qs (j:Int) qs.length:Rat) / (Sw.shS ss j:Rat)) = _
    rw [tot j (List.mem_range.mp hj)]
    rfl
theorem fq_shift (A:Int) (W:Rat):fq ((A:Rat)+W) = [.int (W.num+A*(W.den:Int)),.int (W.den:Int)]:=by
  have e:(A:Rat)+W = ⟨W.num+A*(W.den:Int),W.den,W.den_nz,by
      have:=W.reduced
      unfold Nat.Coprime at this ⊢
      have h:Int.gcd (W.num+A*(W.den:Int)) (W.den:Int)=Int.gcd W.num (W.den:Int):=by simp
      exact h.trans this⟩:=by
    have h1:=Sw.q_eq (q:=⟨W.num+A*(W.den:Int),W.den,W.den_nz,by
      have:=W.reduced
      unfold Nat.Coprime at this ⊢
      have h:Int.gcd (W.num+A*(W.den:Int)) (W.den:Int)=Int.gcd W.num (W.den:Int):=by simp
      exact h.trans this⟩) (n:=W.num+A*(W.den:Int)) (d:=(W.den:Int)) (by have:=W.den_nz; omega) (by rw [Int.mul_comm])
    have h2:W=(W.num:Rat) / ((W.den:Int):Rat):=Sw.q_eq (by have:=W.den_nz; omega) (by rw [Int.mul_comm])
    have d0:((W.den:Int):Rat)≠0:=Sw.q_cast_ne (by have:=W.den_nz; omega)
    rw [h1,Rat.intCast_add,Rat.intCast_mul]
    grind
  rw [e]
  rfl
theorem max_ex (e:Nat→Rat):∀ n,0<n→∃ i,i<n∧∀ j,j<n→e j≤e i
  | 0,h=>absurd h (Nat.lt_irrefl _)
  | 1,_=>by
    refine ⟨0,by decide,fun j hj=>?_⟩
    have:j = 0:=by omega
    rw [this]
    exact Rat.le_refl
  | n+2,_=>by
    obtain ⟨i,hi,h⟩:=max_ex e (n+1) (by omega)
    by_cases c:e i≤e (n+1)
    · refine ⟨n+1,by omega,fun j hj=>?_⟩
      rcases Nat.lt_or_ge j (n+1) with z | z
      · have:=h j z; grind
      · have:j=n+1:=by omega
        rw [this]; exact Rat.le_refl
    · refine ⟨i,by omega,fun j hj=>?_⟩
      rcases Nat.lt_or_ge j (n+1) with z | z
      · exact h j z
      · have:j=n+1:=by omega
        rw [this]; grind
theorem some_waits {way:Int} {ss:List Sw.S3} {m:Nat} (B:Bst way ss) (en:EndS ss m) (ne:ss≠[]):∃ i,i<ss.length∧Sw.waS ss m i=(((List.range ss.length).map (Sw.buS ss)).sum:Rat):=by
  have P:=bst_plan B
  have n0:0<ss.length:=by
    rcases Nat.eq_zero_or_pos ss.length with z | z
    · exact absurd (List.length_eq_zero_iff.mp z) ne
    · exact z
  obtain ⟨i,hi,mx⟩:=max_ex (Sw.eS ss) ss.length n0
  exact ⟨i,hi,by rw [Sw.burst_wait P (bst_r0 B) en hi,Sw.burst_last P mx]⟩
def fqD (q:Rat):PyData:=.tuple [.int q.num,.int (q.den:Int)]
theorem fqs_deep {H:Hp}:∀ {ps:List Addr} {qs:List Rat},TupsF fq H ps qs→DeepAll K H (ps.map V.ref) (qs.map fqD)
  | _,_,Paired.nil=>.nil
  | _,_,Paired.cons a b=>.cons (fq_deep a) (fqs_deep b)
theorem shaped_fqs (qs:List Rat):PySem.SeqAt.shaped (.list (qs.map fqD))=true:=shaped_list (n:=1) (fun _=>rfl) (fun _=>by simp [fqD,PyData.depth,PyData.depthAll]) (by decide) qs
def snD (s:Sw.S3):PyData:=.tuple [.int s.1,.tuple [.int s.2.1,fqD s.2.2]]
theorem sns_deep {H:Hp}:∀ {ps:List Addr} {ss:List Sw.S3},Paired (Sn2 H) ps ss→DeepAll K H (ps.map V.ref) (ss.map snD)
  | _,_,Paired.nil=>.nil
  | _,_,Paired.cons a b=>by
    obtain ⟨pl,pr,h1,h2,h3⟩:=a
    exact .cons (.tup (.of h1) (.cons (.int _) (.cons (.tup (.of h2) (.cons (.int _) (.cons (fq_deep h3) .nil))) .nil))) (sns_deep b)
theorem snl_deep {H:Hp} {l:Addr} {ps:List Addr} {ss:List Sw.S3} (h:SnL H l ps ss):Deep K H (.ref l) (.list (ss.map snD)):=.lst (.of h.hl) (sns_deep h.r)
theorem shaped_sn (ss:List Sw.S3):PySem.SeqAt.shaped (.list (ss.map snD))=true:=shaped_list (n:=3) (fun _=>rfl) (fun _=>by simp [snD,fqD,PyData.depth,PyData.depthAll]) (by decide) ss
theorem ok_law {f:Addr} {fd:FuncData} (F:Fun K "law" "law" s_law f fd) (T:Txt K mg c_Tide):FnOk P w K mg base CX0 9 f fd ["_law_script"] (spLaw K):=by
  have D__law_cell_at:=d__law_cell_at (P:=P) (w:=w) (base:=base) T
  have D__law_senders:=d__law_senders (P:=P) (w:=w) (base:=base) T
  have D__law_row:=d__law_row (P:=P) (w:=w) (base:=base) T
  have D_waits:=d_waits (P:=P) (w:=w) (base:=base) T
  have D_piles:=d_piles (P:=P) (w:=w) (base:=base) T
  have D_spans:=d_spans (P:=P) (w:=w) (base:=base) T
  refine F.ok sc_law (fun vs H Q E h=>?_) (fun cdv A outer s H vs Q E hr h=>?_)
  · obtain ⟨a,ns,rfl,_⟩:=h
    rfl
  · obtain ⟨sc,ns,rfl,hS,hlen,k⟩:=h
    refine ⟨_,(pss_cons (ps_set (i:=1) sc_law.nd rfl (by first|left;rfl|right;rfl) (pe_callX D__law_senders (hr.mono (by decide)) rfl passN (pa_cons (pv 0) pa_nil))) (pss_cons (ps_set (i:=2) sc_law.nd rfl (by first|left;rfl|right;rfl) (pe_callX D__law_cell_at (hr.mono (by decide)) rfl passN (pa_cons (pv 0) (pa_cons pe_int pa_nil)))) (pss_cons (ps_set (i:=3) sc_law.nd rfl (by first|left;rfl|right;rfl) (pe_ix (ix_listK K rfl) (pe_lst (pa_cons pe_int (pa_cons (pe_op op_mod (pe_op op_fdivL (pv 2) pe_int) (pe_op op_pow pe_int pe_int)) pa_nil))) (pe_op op_mod (pe_op op_fdivL (pv 2) pe_int) pe_int) (fun _ _=>rfl))) (pss_cons (ps_set (i:=4) sc_law.nd rfl (by first|left;rfl|right;rfl) (pe_callX D__law_row (hr.mono (by decide)) rfl passN (pa_cons (pv 0) (pa_cons (pv 1) (pa_cons (pv 3) pa_nil))))) (pss_cons (ps_set (i:=5) sc_law.nd rfl (by first|left;rfl|right;rfl) (pe_callX D_waits (hr.mono (by decide)) rfl passN (pa_cons (pe_callTy (call_listK K rfl) rfl T.no_list boot_list (pa_cons (pv 1) pa_nil)) pa_nil))) (pss_cons (ps_set (i:=6) sc_law.nd rfl (by first|left;rfl|right;rfl) (pe_callX D_piles (hr.mono (by decide)) rfl passN (pa_cons (pe_callTy (call_listK K rfl) rfl T.no_list boot_list (pa_cons (pv 1) pa_nil)) pa_nil))) (pss_cons (ps_set (i:=7) sc_law.nd rfl (by first|left;rfl|right;rfl) (pe_callX D_spans (hr.mono (by decide)) rfl passN (pa_cons (pe_callTy (call_listK K rfl) rfl T.no_list boot_list (pa_cons (pv 4) pa_nil)) pa_nil))) (pss_cons (ps_if (PW.pt (pw_or (pt_cmpR (op_neDK K rfl hr.units) (pv 6) (pe_lc ["_law_sender"] [] rfl (by with_unfolding_all rfl) (by decide +kernel) rfl (by decide +kernel) (by exact True.intro) (by with_unfolding_all rfl) True.intro (pi_listK K rfl (pv 1)) (fun _ _ _=>(pg_name (i:=0) (show (["_law_sender"]:List Str).Nodup from by decide +kernel) rfl (by first|left;rfl|right;rfl))) (fun _ _ _=>pifs_nil) (fun _ _ _=>(pe_tup (pa_cons (pe_ix (ix_tupK K rfl) (pe_ix (ix_tupK K rfl) (pv 0) pe_int (fun _ _=>rfl)) pe_int (fun _ _=>rfl)) (pa_cons pe_int pa_nil))))) (nomark _)) (pw_or1 (pt_cmpR op_ne (pe_callB (call_lenK K rfl) rfl T.no_len boot_len (pa_cons (pv 5) pa_nil)) (pe_callB (call_lenK K rfl) rfl T.no_len boot_len (pa_cons (pv 1) pa_nil)) (nomark _))))) (pss_one (ps_ret pe_bl)) pss_nil) (pss_cons (ps_set (i:=8) sc_law.nd rfl (by first|left;rfl|right;rfl) pe_dnewK) (pss_cons (ps_for PassesOwn.never rfl (pi_zipK K rfl rfl T.no_zip (pa_cons (pv 4) (pa_cons (pv 7) pa_nil))) (pg_tupK (n:=2) K rfl rfl (pgs_cons (pg_name (i:=9) sc_law.nd rfl (by first|left;rfl|right;rfl)) (pgs_cons (pg_name (i:=10) sc_law.nd rfl (by first|left;rfl|right;rfl)) pgs_nil))) (pss_one (ps_dput (hu_of hr) (pv 8) (pe_ix (ix_tupK K rfl) (pv 9) pe_int (fun _ _=>rfl)) (pe_ix (ix_tupK K rfl) (pv 10) pe_int (fun _ _=>rfl)) rfl))) (pss_cons (ps_for PassesOwn.never rfl (pi_range1 rfl T.no_range (pa_cons (pe_callB (call_lenK K rfl) rfl T.no_len boot_len (pa_cons (pv 1) pa_nil)) pa_nil)) (pg_name (i:=11) sc_law.nd rfl (by first|left;rfl|right;rfl)) (pss_one (ps_if (pt_cmpR (op_neDK K rfl hr.units) (pe_dget (hu_of hr) (pv 8) (pv 11) (fun _ _=>rfl)) (pe_tup (pa_cons (pe_op op_add (pe_ix (ix_tupK K rfl) (pe_ix (ix_listK K rfl) (pv 5) (pv 11) (fun _ _=>rfl)) pe_int (fun _ _=>rfl)) (pe_op op_mulL (pv 3) (pe_ix (ix_tupK K rfl) (pe_ix (ix_listK K rfl) (pv 5) (pv 11) (fun _ _=>rfl)) pe_int (fun _ _=>rfl)))) (pa_cons (pe_ix (ix_tupK K rfl) (pe_ix (ix_listK K rfl) (pv 5) (pv 11) (fun _ _=>rfl)) pe_int (fun _ _=>rfl)) pa_nil))) (nomark _)) (pss_one (ps_ret pe_bl)) pss_nil))) (pss_cons (ps_set (i:=12) sc_law.nd rfl (by first|left;rfl|right;rfl) (pe_callB (call_sumK K rfl rfl) rfl T.no_sum boot_sum (pa_cons (pe_lc ["_law_sender"] [] rfl (by with_unfolding_all rfl) (by decide +kernel) rfl (by decide +kernel) (by exact True.intro) (by with_unfolding_all rfl) True.intro (pi_listK K rfl (pv 1)) (fun _ _ _=>(pg_name (i:=0) (show (["_law_sender"]:List Str).Nodup from by decide +kernel) rfl (by first|left;rfl|right;rfl))) (fun _ _ _=>pifs_nil) (fun _ _ _=>(pe_ix (ix_tupK K rfl) (pe_ix (ix_tupK K rfl) (pv 0) pe_int (fun _ _=>rfl)) pe_int (fun _ _=>rfl)))) pa_nil))) (pss_one (ps_ret (pe_or (pe_cmpR (op_eqDK K rfl hr.units) (pv 1) (pe_lst pa_nil) (nomark _)) (pe_one (pe_cmpR (op_inD K rfl hr.units66) (pe_tup (pa_cons (pv 12) (pa_cons pe_int pa_nil))) (pv 5) rfl))))))))))))))))),?_⟩
    show tSeq _ _ _ [some (.ref sc),none,none,none,none,none,none,none,none,none,none,none,none] H
    refine seq_step fun R hR=>?_
    walk_at "rd"
    refine ⟨sc,ns,rfl,hS,hlen,fun H1 l ps ss way s1 nl SL B w0 w1 nsl=>hR _ _ ?_⟩
    clear hR
    have hS:=s1.seq hS
    have Pl:=bst_plan B
    clear s1 nl
    refine seq_step fun R hR=>?_
    walk_at "rd"
    refine spCell_of hS (by decide) (hR _ _ ?_)
    clear hR
    generalize cellI ns 0=first
    refine seq_step fun R hR=>?_
    walk_at "rd"
    intro q1 f1
    have z1:0≤first / 3 % 2∧first / 3 % 2<2:=by omega
    have z2:=Int.emod_nonneg (first / 6) (show (100000000000:Int)≠0 by decide)
    have z3:=Int.emod_lt_of_pos (first / 6) (show (0:Int)<100000000000 by decide)
    refine pickX [0,first / 6 % 100000000000] z1.1 z1.2 fun A1 hA=>hR _ _ ?_
    clear hR
    have Ab:0≤A1∧A1<100000000000:=by
      have hm:=List.mem_of_getElem? hA
      simp only [List.mem_cons,List.not_mem_nil,or_false] at hm
      omega
    have s1:=same_new (o:=.lst (([0,first / 6 % 100000000000]:List Int).map V.int)) f1
    have SL:=SL.same s1
    have hS:=s1.seq hS
    generalize upd H1 q1 (.lst (([0,first / 6 % 100000000000]:List Int).map V.int))=H2 at SL hS ⊢
    clear s1 f1 hA z1 z2 z3
    refine seq_step fun R hR=>?_
    walk_at "rd"
    refine ⟨sc,ns,l,ps,ss,A1,rfl,hS,SL,B.n,B.b,nsl,fun H3 r rp qs s3 RR RB=>hR _ _ ?_⟩
    clear hR
    have SL:=SL.same s3
    clear s3 hS
    obtain ⟨n,M,a,cc,g⟩:=bst_good B RB Ab.1 Ab.2
    have hc:∀ i,i<ss.length→((cutsF (Sw.buS ss i) (cellI ns (1+i))).take 3).sum=Sw.buS ss i:=fun i hi=>by
      obtain ⟨c1,c2,_⟩:=cuts_ok (bst_bu B hi).1 (cellI ns (1+i))
      rw [List.take_of_length_le c2]
      exact c1
    refine seq_step fun R hR=>?_
    walk_at "rd"
    refine lst_at (.of SL.hl) fun l1 f1=>?_
    refine ⟨l1,ps,ss,1,rfl,SL.copy f1,Pl,fun wl wp m H4 s4 _ W4 en=>hR _ _ ?_⟩
    clear hR
    have s4:=(same_new (o:=.lst (ps.map V.ref)) f1).trans s4
    have SL:=SL.same s4
    have RR:=RR.same s4
    clear s4 f1
    refine seq_step fun R hR=>?_
    walk_at "rd"
    refine lst_at (.of SL.hl) fun l2 f1=>?_
    refine ⟨l2,ps,ss,1,rfl,SL.copy f1,Pl,fun pl pp m' H5 s5 _ P5 en'=>hR _ _ ?_⟩
    clear hR
    have em:m'=m:=EndS.uniq en' en
    subst em
    have s5:=(same_new (o:=.lst (ps.map V.ref)) f1).trans s5
    have SL:=SL.same s5
    have RR:=RR.same s5
    have W4:=W4.same s5
    clear s5 f1 en'
    refine seq_step fun R hR=>?_
    walk_at "rd"
    refine lst_at (.of RR.hl) fun l3 f1=>?_
    refine ⟨n,M,a,cc,l3,rp,qs,rfl,RR.copy f1,g.F,g.ln,g.pc,g.pw,fun tl tp H6 s6 _ TL=>hR _ _ ?_⟩
    clear hR
    have s6:=(same_new (o:=.lst (rp.map V.ref)) f1).trans s6
    have SL:=SL.same s6
    have RR:=RR.same s6
    have W4:=W4.same s6
    have P5:=P5.same s6
    clear s6 f1
    have len:=SL.len
    have lrow:=RR.r.len
    refine seq_step fun R hR=>?_
    walk_at "rd"
    refine ⟨⟨_,.of SL.hl⟩,fun D hD=>?_⟩
    show CompG _ _ _ _ D [none] _ _
    refine comp_walk (xs:=ps.map V.ref) (fun i τ H'=>(∃ v1,τ = [v1])∧Same H6 H'∧∃ dp,Lst fq H' D dp ((List.range i).map fun j=>(Sw.buS ss j:Rat))) ⟨⟨none,rfl⟩,same_new hD,[],⟨upd_same,.nil⟩⟩ (fun i τ H' _ ⟨_,sm,_⟩=>.of (sm _ _ SL.hl)) ?_ ?_
    · rintro i x τ H' hx ⟨⟨v1,rfl⟩,sm,dp,LD⟩
      obtain ⟨p1,hp1,rfl⟩:∃ p,ps[i]? = some p∧V.ref p=x:=by simpa using hx
      obtain ⟨sd,hsd,q1,q2,h1,h2,h3⟩:=paired_get SL.r hp1
      have hi:i<ss.length:=(List.getElem?_eq_some_iff.mp hsd).1
      have n8:=B.n
      have ld:=tupsF_len LD.r
      rw [List.length_map,List.length_range] at ld
      walk_at "rd"
      unfold tYes
      walk_at "rd"
      refine ixT_at (.of (sm _ _ h1)) (v:=.ref q1) rfl ?_
      refine ixT_at (.of (sm _ _ h2)) (v:=.int sd.2.1) rfl ?_
      intro tp' ftp
      have e1:=same_new (o:=.tup [.int sd.2.1,.int 1]) ftp
      have htp:upd H' tp' (.tup [.int sd.2.1,.int 1]) tp'=some (.tup (fq (Sw.buS ss i:Rat))):=by
        rw [upd_same]
        have:Sw.buS ss i=sd.2.1:=by unfold Sw.buS; rw [hsd]; rfl
        rw [this]
        rfl
      have LD:=LD.same e1
      have sm:=sm.trans e1
      generalize upd H' tp' (.tup [.int sd.2.1,.int 1])=H7 at LD sm htp ⊢
      have kt:∀ b xs,H7 b=some (.tup xs)→upd H7 D (.lst (dp.map V.ref++[.ref tp'])) b=some (.tup xs):=fun b xs e=>upd_tup LD.hl e
      refine ⟨_,LD.hl,line_lt (by rw [List.length_map]; omega),fun b o e=>?_,dp++[tp'],?_,?_⟩
      · rw [upd_ne (ne_of_none e hD)]; exact sm _ _ e
      · rw [upd_same,List.map_append]; rfl
      · rw [List.range_succ,List.map_append]
        exact tupsF_snoc (kt _ _ htp) (tupsF_keep LD.r kt)
    rintro τ H7 ⟨_,s7,dp,LD⟩
    rw [List.length_map,len] at LD
    have SL:=SL.same s7
    have RR:=RR.same s7
    have W4:=W4.same s7
    have P5:=P5.same s7
    have TL:=TL.same s7
    clear s7 hD
    have ep:fr ss.length (pilS ss m')=(List.range ss.length).map fun j=>(Sw.buS ss j:Rat):=by
      unfold fr
      exact List.map_congr_left fun j hj=>Sw.burst_pile Pl (bst_r0 B) en (List.mem_range.mp hj)
    rw [ep] at P5
    refine ne_same (.lst (.of P5.hl) (fqs_deep P5.r)) (.lst (.of LD.hl) (fqs_deep LD.r)) (shaped_fqs _) ?_
    walk_at "rd"
    have lw:=tupsF_len W4.r
    rw [fr_len] at lw
    refine len_at (.of W4.hl) ?_
    refine len_at (.of SL.hl) ⟨rfl,?_⟩
    rw [if_pos (by rw [List.length_map,List.length_map,lw,len])]
    refine hR _ _ ?_
    clear hR LD P5
    refine seq_step fun R hR=>?_
    walk_at "rd"
    intro ed fed
    refine hR _ _ ?_
    clear hR
    have s8:=same_new (o:=.dK []) fed
    have hed:upd H7 ed (.dK []) ed=some (.dK []):=upd_same
    have lt:=Paired.length TL.r
    rw [Sw.spansF_len] at lt
    generalize eus:Sw.spansF (Sw.endsF (Sw.flowF (fsOf qs (Sw.Ti.nil.tags qs)) (2*n+1) 0 0)) 0 (fun _=>none) qs=us at TL
    have lu:us.length=qs.length:=by rw [← eus]; exact Sw.spansF_len
    generalize upd H7 ed (.dK [])=H8 at s8 hed ⊢
    refine seq_step fun R hR=>?_
    refine for_step fun Z hZ=>?_
    simp only [iZip]
    walk_at "rd"
    refine ⟨⟨_,.of (s8 _ _ RR.hl)⟩,⟨_,.of (s8 _ _ TL.hl)⟩,hZ _ _ ?_⟩
    clear hZ
    refine for_zip (K:=K) (a:=r) (b:=tl) (xs:=rp.map V.ref) (ys:=tp.map V.ref) (fun i σ H'=>∃ kvs v9 v10,σ = [some (.ref sc),some (.ref l),some (.int first),some (.int A1),some (.ref r),some (.ref wl),some (.ref pl),some (.ref tl),some (.ref ed),v9,v10,none,none]∧Same H7 H'∧H' ed=some (.dK kvs)∧kvs.length≤i∧EnAt H' kvs (((qs.zip us).take i).foldl (fun m x=>setE m x.1.2.1 x.2.2) fun _=>none)) ⟨[],none,none,rfl,s8,hed,Nat.le_refl _,fun w=>.inl ⟨rfl,rfl⟩⟩ (by rw [List.length_map,List.length_map]; omega) (fun j σ H' _ ⟨_,_,_,_,sm,_⟩=>⟨.of (sm _ _ RR.hl),.of (sm _ _ TL.hl)⟩) ?_ ?_
    · clear s8 hed
      rintro i y1 y2 σ H9 p hy1 hy2 ⟨kvs,v9,v10,rfl,sm,hed,kn,EA⟩ fp
      obtain ⟨px,hpx,rfl⟩:∃ p,rp[i]? = some p∧V.ref p=y1:=by simpa using hy1
      obtain ⟨pu,hpu,rfl⟩:∃ p,tp[i]? = some p∧V.ref p=y2:=by simpa using hy2
      obtain ⟨q,hq,hq2⟩:=RR.r.get hpx
      obtain ⟨u,hu,pb,pe,g1,g2,g3⟩:=paired_get TL.r hpu
      have hi:i<qs.length:=(List.getElem?_eq_some_iff.mp hq).1
      have ql:=g.ln
      have q60:=g.F.n1
      have sn:=same_new (o:=.tup [.ref px,.ref pu]) fp
      have sm:=sm.trans sn
      refine ⟨p,_,rfl,.of upd_same,rfl,_,_,rfl,_,_,rfl,rfl,?_⟩
      have hed:=sn _ _ hed
      have EA:=EA.keep fun p xs e=>sn p _ e
      generalize upd H9 p (.tup [.ref px,.ref pu])=H10 at sm hed EA ⊢
      clear sn fp
      show sDPut _ _ _ _ [some (.ref sc),some (.ref l),some (.int first),some (.int A1),some (.ref r),some (.ref wl),some (.ref pl),some (.ref tl),some (.ref ed),some (.ref px),some (.ref pu),none,none] H10
      refine nx_step fun N hN=>?_
      walk_at "rd"
      refine ixT_at (.of (sm _ _ g1)) (v:=.ref pe) rfl ?_
      refine ixT_at (.of (sm _ _ hq2)) (v:=.int q.2.1) rfl ?_
      have lp:=length_putK kvs (Sum.inl q.2.1:Key) (.ref pe)
      refine ⟨_,DPut.k (k:=Sum.inl q.2.1) hed (line_lt (by omega)),hN _ _ ⟨_,_,_,rfl,fun b o e=>?_,upd_same,by omega,?_⟩⟩
      · rw [upd_ne (ne_of_none e fed)]; exact sm _ _ e
      · have hz:(qs.zip us)[i]? = some (q,u):=by rw [List.getElem?_zip_eq_some]; exact ⟨hq,hu⟩
        rw [L2.take_succ_of hz,List.foldl_append]
        have kt:∀ b xs,H10 b=some (.tup xs)→upd H10 ed (.dK (putK kvs (Sum.inl q.2.1:Key) (.ref pe))) b=some (.tup xs):=fun b xs e=>by
          rw [upd_ne (ne_of e hed (by intro z; cases z))]; exact e
        exact (EA.keep kt).put (kt _ _ (sm _ _ g3))
    · clear s8 hed
      rintro σ H9 ⟨kvs,v9,v10,rfl,sm,hed,kn,EA⟩
      rw [List.length_map,lrow,List.take_of_length_le (by rw [List.length_zip]; omega)] at EA
      have ends:=fun {i:Nat} (hi:i<ss.length)=>ends_at B RB hc g Ab.1 en hi
      rw [eus] at ends
      generalize (qs.zip us).foldl (fun m x=>setE m x.1.2.1 x.2.2) (fun _=>none)=eN at EA ends
      refine hR _ _ ?_
      clear hR
      have SL:=SL.same sm
      have W4:=W4.same sm
      refine seq_step fun R hR=>?_
      refine for_step fun Z hZ=>?_
      walk_at "rd"
      refine len_at (.of SL.hl) ?_
      rw [List.length_map,len]
      have n8:=B.n
      refine ⟨_,rfl,by omega,by omega,hZ _ _ ?_⟩
      clear hZ
      rw [Int.toNat_natCast]
      refine for_range (fun i σ H'=>∃ v11,σ = [some (.ref sc),some (.ref l),some (.int first),some (.int A1),some (.ref r),some (.ref wl),some (.ref pl),some (.ref tl),some (.ref ed),v9,v10,v11,none]∧Same H9 H') ⟨none,rfl,Same.refl _⟩ ?_ ?_
      · rintro i σ H10 hi ⟨v11,rfl,s10⟩
        have ew:(fr ss.length (Sw.waS ss m'))[i]? = some (Sw.waS ss m' i):=fr_get _ hi
        obtain ⟨pw,hpw,htw⟩:=paired_at W4.r ew
        have htw:=s10 _ _ htw
        have zw:=Sw.wa_sz Pl en hi
        obtain ⟨e1,q1,h1,h2,h3⟩:∃ e q,eN (i:Int)=some e∧valV kvs (Sum.inl (i:Int):Key)=some (.ref q)∧H9 q=some (.tup (fq e)):=by
          rcases EA (i:Int) with ⟨z,_⟩ | z
          · rw [ends hi] at z; cases z
          · exact z
        rw [ends hi] at h1
        cases h1
        have hga:=DGet.k (k:=Sum.inl (i:Int)) (s10 _ _ hed)
        rw [h2] at hga
        have hia:atI (wp.map V.ref) (0+(i:Int))=some (.ref pw):=by
          rw [Int.zero_add]
          exact atI_nat (by rw [List.getElem?_map,hpw]; rfl)
        show tIfS _ _ _ _ [some (.ref sc),some (.ref l),some (.int first),some (.int A1),some (.ref r),some (.ref wl),some (.ref pl),some (.ref tl),some (.ref ed),v9,v10,some (.int (0+(i:Int))),none] H10
        refine nx_step fun N hN=>?_
        walk_at "rd"
        rw [show (Sum.inl (i:Int):Key)=Sum.inl (0+(i:Int)) by rw [Int.zero_add]] at hga
        have hga:DGet H10 ed (V.int (0+(i:Int))) (some (V.ref q1)):=hga
        refine ⟨_,hga,?_⟩
        refine ixL_at (.of (s10 _ _ W4.hl)) hia ?_
        refine ixT_at (.of htw) (v:=.int (Sw.waS ss m' i).num) rfl ?_
        refine ixL_at (.of (s10 _ _ W4.hl)) hia ?_
        refine ixT_at (.of htw) (v:=.int ((Sw.waS ss m' i).den:Int)) rfl ⟨_,rfl,⟨(Sw.Sz.r18 (by omega) (by omega)).mono (by decide),zw.d.mono (by decide)⟩,_,rfl,?_⟩
        refine ixL_at (.of (s10 _ _ W4.hl)) hia ?_
        refine ixT_at (.of htw) (v:=.int ((Sw.waS ss m' i).den:Int)) rfl ?_
        intro p1 f1
        have s11:=same_new (o:=.tup [.int ((Sw.waS ss m' i).num+A1*((Sw.waS ss m' i).den:Int)),.int ((Sw.waS ss m' i).den:Int)]) f1
        have hp1:upd H10 p1 (.tup [.int ((Sw.waS ss m' i).num+A1*((Sw.waS ss m' i).den:Int)),.int ((Sw.waS ss m' i).den:Int)]) p1=some (.tup (fq ((A1:Rat)+Sw.waS ss m' i))):=by rw [upd_same,fq_shift]
        refine ne_same (fq_deep (s11 _ _ (s10 _ _ h3))) (fq_deep hp1) rfl ?_
        walk_at "rd"
        exact hN _ _ ⟨_,rfl,s10.trans s11⟩
      · rintro σ H10 ⟨v11,rfl,s10⟩
        refine hR _ _ ?_
        clear hR
        have SL:=SL.same s10
        have W4:=W4.same s10
        refine seq_step fun R hR=>?_
        walk_at "rd"
        refine ⟨⟨_,.of SL.hl⟩,fun D hD=>?_⟩
        show CompG _ _ _ _ D [none] _ _
        refine comp_walk (xs:=ps.map V.ref) (fun i τ H'=>(∃ v1,τ = [v1])∧Same H10 H'∧H' D=some (.lst (((List.range i).map (Sw.buS ss)).map V.int))) ⟨⟨none,rfl⟩,same_new hD,upd_same⟩ (fun i τ H' _ ⟨_,sm,_⟩=>.of (sm _ _ SL.hl)) ?_ ?_
        · rintro i x τ H' hx ⟨⟨v1,rfl⟩,sm',hDl⟩
          obtain ⟨p1,hp1,rfl⟩:∃ p,ps[i]? = some p∧V.ref p=x:=by simpa using hx
          obtain ⟨sd,hsd,q1,q2,h1,h2,h3⟩:=paired_get SL.r hp1
          have hi:i<ss.length:=(List.getElem?_eq_some_iff.mp hsd).1
          have eb:Sw.buS ss i=sd.2.1:=by unfold Sw.buS; rw [hsd]; rfl
          walk_at "rd"
          unfold tYes
          walk_at "rd"
          refine ixT_at (.of (sm' _ _ h1)) (v:=.ref q1) rfl ?_
          refine ixT_at (.of (sm' _ _ h2)) (v:=.int sd.2.1) rfl ?_
          refine ⟨_,hDl,line_lt (by rw [List.length_map,List.length_map,List.length_range]; omega),fun b o e=>?_,?_⟩
          · rw [upd_ne (ne_of_none e hD)]; exact sm' _ _ e
          · rw [upd_same,List.range_succ,List.map_append,List.map_append,List.map_singleton,eb]; rfl
        rintro τ H11 ⟨_,s11,hDl⟩
        rw [List.length_map,len] at hDl
        refine ⟨D,_,rfl,.of hDl,hR _ _ ?_⟩
        clear hR
        have SL:=SL.same s11
        have W4:=W4.same s11
        generalize ewh:((List.range ss.length).map (Sw.buS ss)).sum=wh
        walk_at "rd"
        intro p1 f1
        have s12:=same_new (o:=.lst []) f1
        have hp1:upd H11 p1 (.lst []) p1=some (.lst []):=upd_same
        have SL:=SL.same s12
        have W4:=W4.same s12
        generalize upd H11 p1 (.lst [])=H12 at SL W4 hp1 ⊢
        refine eq_at (snl_deep SL) (.lst (.of hp1) .nil) (shaped_sn ss) (by decide) ?_
        by_cases e0:ss = []
        · subst e0
          refine ⟨_,rfl,?_⟩
          rw [if_pos (by decide)]
          exact k _
        · obtain ⟨i0,hi0,wi⟩:=some_waits B en e0
          refine ⟨_,rfl,?_⟩
          rw [if_neg (by cases ss with
            | nil=>exact absurd rfl e0
            | cons x r=>simp [PyData.eqv,PyData.eqvAll])]
          intro p2 f2
          have s13:=same_new (o:=.tup [.int wh,.int 1]) f2
          have hp2:upd H12 p2 (.tup [.int wh,.int 1]) p2=some (.tup (fq (wh:Rat))):=by rw [upd_same]; rfl
          have W4:=W4.same s13
          generalize upd H12 p2 (.tup [.int wh,.int 1])=H13 at W4 hp2 ⊢
          refine ⟨wl,_,fqD (wh:Rat),(fr ss.length (Sw.waS ss m')).map fqD,rfl,.of W4.hl,fq_deep hp2,rfl,fqs_deep W4.r,fun e he=>?_,?_⟩
          · obtain ⟨x,_,rfl⟩:=List.mem_map.mp he
            rfl
          · have:anyD ((fr ss.length (Sw.waS ss m')).map fqD) (fqD (wh:Rat))=true:=by
              unfold anyD
              rw [List.any_eq_true]
              refine ⟨fqD (Sw.waS ss m' i0),List.mem_map.mpr ⟨_,List.mem_of_getElem? (fr_get _ hi0),rfl⟩,?_⟩
              rw [wi,ewh]
              simp [fqD,PyData.eqv,PyData.eqvAll]
            rw [this]
            exact k _
end
theorem all_mk {l:PySem.W.OpenLaw} {w:World} {K:PySem.W.Frag} {h:Heap} {mg:Str→Option Value} {fa f1 f2 f3 f4 f5 f6 f7 f8 f9 f10 f11 f12 f13 f14 f15 f16 f17 f18 f19 f20 f21 f22 f23 f24 f25 f26 f27 f28 f29 f30 f31 f32:Addr} (X:K.In h) (G:h.Ns mainGlobals mg) (hfa:mg "law" = some (.ref fa))
    {od1 an1 od2 an2 od3 an3 od4 an4 od5 an5 od6 an6 od7 an7 od8 an8 od9 an9 od10 an10 od11 an11 od12 an12 od13 an13 od14 an14 od15 an15 od16 an16 od17 an17 od18 an18 od19 an19 od20 an20 od21 an21 od22 an22 od23 an23 od24 an24 od25 an25 od26 an26 od27 an27 od28 an28 od29 an29 od30 an30 od31 an31 od32 an32:Option Addr} {sl1 sl2 sl3 sl4 sl5 sl6 sl7 sl8 sl9 sl10 sl11 sl12 sl13 sl14 sl15 sl16 sl17 sl18 sl19 sl20 sl21 sl22 sl23 sl24 sl25 sl26 sl27 sl28 sl29 sl30 sl31 sl32:Array (Option Value)} {oc1 kV1 dc1 pm1 cd1 ct1 oc2 kV2 dc2 pm2 cd2 ct2 oc3 kV3 dc3 pm3 cd3 ct3 oc4 kV4 dc4 pm4 cd4 ct4 oc5 kV5 dc5 pm5 cd5 ct5 oc6 kV6 dc6 pm6 cd6 ct6 oc7 kV7 dc7 pm7 cd7 ct7 oc8 kV8 dc8 pm8 cd8 ct8 oc9 kV9 dc9 pm9 cd9 ct9 oc10 kV10 dc10 pm10 cd10 ct10 oc11 kV11 dc11 pm11 cd11 ct11 oc12 kV12 dc12 pm12 cd12 ct12 oc13 kV13 dc13 pm13 cd13 ct13 oc14 kV14 dc14 pm14 cd14 ct14 oc15 kV15 dc15 pm15 cd15 ct15 oc16 kV16 dc16 pm16 cd16 ct16 oc17 kV17 dc17 pm17 cd17 ct17 oc18 kV18 dc18 pm18 cd18 ct18 oc19 kV19 dc19 pm19 cd19 ct19 oc20 kV20 dc20 pm20 cd20 ct20 oc21 kV21 dc21 pm21 cd21 ct21 oc22 kV22 dc22 pm22 cd22 ct22 oc23 kV23 dc23 pm23 cd23 ct23 oc24 kV24 dc24 pm24 cd24 ct24 oc25 kV25 dc25 pm25 cd25 ct25 oc26 kV26 dc26 pm26 cd26 ct26 oc27 kV27 dc27 pm27 cd27 ct27 oc28 kV28 dc28 pm28 cd28 ct28 oc29 kV29 dc29 pm29 cd29 ct29 oc30 kV30 dc30 pm30 cd30 ct30 oc31 kV31 dc31 pm31 cd31 ct31 oc32 kV32 dc32 pm32 cd32 ct32:Value}
    (a1:PySem.W.nsIn K mainGlobals "divisor" = some (some (.ref f1))) (l1:K.lookup f1=some ⟨oc1,od1,.func (PySem.W.fnOf "divisor" "divisor" (defArgs s_divisor) (defBody s_divisor) (defScope s_divisor) .none kV1 dc1 pm1 an1 cd1 ct1),sl1⟩) (c1:PySem.W.codeIn K cd1 "divisor" = true) (k1:PySem.W.keepIn K (.ref f1)=true)
    (a2:PySem.W.nsIn K mainGlobals "ratio" = some (some (.ref f2))) (l2:K.lookup f2=some ⟨oc2,od2,.func (PySem.W.fnOf "ratio" "ratio" (defArgs s_ratio) (defBody s_ratio) (defScope s_ratio) .none kV2 dc2 pm2 an2 cd2 ct2),sl2⟩) (c2:PySem.W.codeIn K cd2 "ratio" = true) (k2:PySem.W.keepIn K (.ref f2)=true)
    (a3:PySem.W.nsIn K mainGlobals "plus" = some (some (.ref f3))) (l3:K.lookup f3=some ⟨oc3,od3,.func (PySem.W.fnOf "plus" "plus" (defArgs s_plus) (defBody s_plus) (defScope s_plus) .none kV3 dc3 pm3 an3 cd3 ct3),sl3⟩) (c3:PySem.W.codeIn K cd3 "plus" = true) (k3:PySem.W.keepIn K (.ref f3)=true)
    (a4:PySem.W.nsIn K mainGlobals "minus" = some (some (.ref f4))) (l4:K.lookup f4=some ⟨oc4,od4,.func (PySem.W.fnOf "minus" "minus" (defArgs s_minus) (defBody s_minus) (defScope s_minus) .none kV4 dc4 pm4 an4 cd4 ct4),sl4⟩) (c4:PySem.W.codeIn K cd4 "minus" = true) (k4:PySem.W.keepIn K (.ref f4)=true)
    (a5:PySem.W.nsIn K mainGlobals "times" = some (some (.ref f5))) (l5:K.lookup f5=some ⟨oc5,od5,.func (PySem.W.fnOf "times" "times" (defArgs s_times) (defBody s_times) (defScope s_times) .none kV5 dc5 pm5 an5 cd5 ct5),sl5⟩) (c5:PySem.W.codeIn K cd5 "times" = true) (k5:PySem.W.keepIn K (.ref f5)=true)
    (a6:PySem.W.nsIn K mainGlobals "over" = some (some (.ref f6))) (l6:K.lookup f6=some ⟨oc6,od6,.func (PySem.W.fnOf "over" "over" (defArgs s_over) (defBody s_over) (defScope s_over) .none kV6 dc6 pm6 an6 cd6 ct6),sl6⟩) (c6:PySem.W.codeIn K cd6 "over" = true) (k6:PySem.W.keepIn K (.ref f6)=true)
    (a7:PySem.W.nsIn K mainGlobals "under" = some (some (.ref f7))) (l7:K.lookup f7=some ⟨oc7,od7,.func (PySem.W.fnOf "under" "under" (defArgs s_under) (defBody s_under) (defScope s_under) .none kV7 dc7 pm7 an7 cd7 ct7),sl7⟩) (c7:PySem.W.codeIn K cd7 "under" = true) (k7:PySem.W.keepIn K (.ref f7)=true)
    (a8:PySem.W.nsIn K mainGlobals "lesser" = some (some (.ref f8))) (l8:K.lookup f8=some ⟨oc8,od8,.func (PySem.W.fnOf "lesser" "lesser" (defArgs s_lesser) (defBody s_lesser) (defScope s_lesser) .none kV8 dc8 pm8 an8 cd8 ct8),sl8⟩) (c8:PySem.W.codeIn K cd8 "lesser" = true) (k8:PySem.W.keepIn K (.ref f8)=true)
    (a9:PySem.W.nsIn K mainGlobals "greater" = some (some (.ref f9))) (l9:K.lookup f9=some ⟨oc9,od9,.func (PySem.W.fnOf "greater" "greater" (defArgs s_greater) (defBody s_greater) (defScope s_greater) .none kV9 dc9 pm9 an9 cd9 ct9),sl9⟩) (c9:PySem.W.codeIn K cd9 "greater" = true) (k9:PySem.W.keepIn K (.ref f9)=true)
    (a10:PySem.W.nsIn K mainGlobals "least" = some (some (.ref f10))) (l10:K.lookup f10=some ⟨oc10,od10,.func (PySem.W.fnOf "least" "least" (defArgs s_least) (defBody s_least) (defScope s_least) .none kV10 dc10 pm10 an10 cd10 ct10),sl10⟩) (c10:PySem.W.codeIn K cd10 "least" = true) (k10:PySem.W.keepIn K (.ref f10)=true)
    (a11:PySem.W.nsIn K mainGlobals "total" = some (some (.ref f11))) (l11:K.lookup f11=some ⟨oc11,od11,.func (PySem.W.fnOf "total" "total" (defArgs s_total) (defBody s_total) (defScope s_total) .none kV11 dc11 pm11 an11 cd11 ct11),sl11⟩) (c11:PySem.W.codeIn K cd11 "total" = true) (k11:PySem.W.keepIn K (.ref f11)=true)
    (a12:PySem.W.nsIn K mainGlobals "check_rates" = some (some (.ref f12))) (l12:K.lookup f12=some ⟨oc12,od12,.func (PySem.W.fnOf "check_rates" "check_rates" (defArgs s_check_rates) (defBody s_check_rates) (defScope s_check_rates) .none kV12 dc12 pm12 an12 cd12 ct12),sl12⟩) (c12:PySem.W.codeIn K cd12 "check_rates" = true) (k12:PySem.W.keepIn K (.ref f12)=true)
    (a13:PySem.W.nsIn K mainGlobals "full_ones" = some (some (.ref f13))) (l13:K.lookup f13=some ⟨oc13,od13,.func (PySem.W.fnOf "full_ones" "full_ones" (defArgs s_full_ones) (defBody s_full_ones) (defScope s_full_ones) .none kV13 dc13 pm13 an13 cd13 ct13),sl13⟩) (c13:PySem.W.codeIn K cd13 "full_ones" = true) (k13:PySem.W.keepIn K (.ref f13)=true)
    (a14:PySem.W.nsIn K mainGlobals "outs_of" = some (some (.ref f14))) (l14:K.lookup f14=some ⟨oc14,od14,.func (PySem.W.fnOf "outs_of" "outs_of" (defArgs s_outs_of) (defBody s_outs_of) (defScope s_outs_of) .none kV14 dc14 pm14 an14 cd14 ct14),sl14⟩) (c14:PySem.W.codeIn K cd14 "outs_of" = true) (k14:PySem.W.keepIn K (.ref f14)=true)
    (a15:PySem.W.nsIn K mainGlobals "time_to_empty" = some (some (.ref f15))) (l15:K.lookup f15=some ⟨oc15,od15,.func (PySem.W.fnOf "time_to_empty" "time_to_empty" (defArgs s_time_to_empty) (defBody s_time_to_empty) (defScope s_time_to_empty) .none kV15 dc15 pm15 an15 cd15 ct15),sl15⟩) (c15:PySem.W.codeIn K cd15 "time_to_empty" = true) (k15:PySem.W.keepIn K (.ref f15)=true)
    (a16:PySem.W.nsIn K mainGlobals "course" = some (some (.ref f16))) (l16:K.lookup f16=some ⟨oc16,od16,.func (PySem.W.fnOf "course" "course" (defArgs s_course) (defBody s_course) (defScope s_course) .none kV16 dc16 pm16 an16 cd16 ct16),sl16⟩) (c16:PySem.W.codeIn K cd16 "course" = true) (k16:PySem.W.keepIn K (.ref f16)=true)
    (a17:PySem.W.nsIn K mainGlobals "greatest" = some (some (.ref f17))) (l17:K.lookup f17=some ⟨oc17,od17,.func (PySem.W.fnOf "greatest" "greatest" (defArgs s_greatest) (defBody s_greatest) (defScope s_greatest) .none kV17 dc17 pm17 an17 cd17 ct17),sl17⟩) (c17:PySem.W.codeIn K cd17 "greatest" = true) (k17:PySem.W.keepIn K (.ref f17)=true)
    (a18:PySem.W.nsIn K mainGlobals "piles" = some (some (.ref f18))) (l18:K.lookup f18=some ⟨oc18,od18,.func (PySem.W.fnOf "piles" "piles" (defArgs s_piles) (defBody s_piles) (defScope s_piles) .none kV18 dc18 pm18 an18 cd18 ct18),sl18⟩) (c18:PySem.W.codeIn K cd18 "piles" = true) (k18:PySem.W.keepIn K (.ref f18)=true)
    (a19:PySem.W.nsIn K mainGlobals "waits_at_turns" = some (some (.ref f19))) (l19:K.lookup f19=some ⟨oc19,od19,.func (PySem.W.fnOf "waits_at_turns" "waits_at_turns" (defArgs s_waits_at_turns) (defBody s_waits_at_turns) (defScope s_waits_at_turns) .none kV19 dc19 pm19 an19 cd19 ct19),sl19⟩) (c19:PySem.W.codeIn K cd19 "waits_at_turns" = true) (k19:PySem.W.keepIn K (.ref f19)=true)
    (a20:PySem.W.nsIn K mainGlobals "waits" = some (some (.ref f20))) (l20:K.lookup f20=some ⟨oc20,od20,.func (PySem.W.fnOf "waits" "waits" (defArgs s_waits) (defBody s_waits) (defScope s_waits) .none kV20 dc20 pm20 an20 cd20 ct20),sl20⟩) (c20:PySem.W.codeIn K cd20 "waits" = true) (k20:PySem.W.keepIn K (.ref f20)=true)
    (a21:PySem.W.nsIn K mainGlobals "heads_of" = some (some (.ref f21))) (l21:K.lookup f21=some ⟨oc21,od21,.func (PySem.W.fnOf "heads_of" "heads_of" (defArgs s_heads_of) (defBody s_heads_of) (defScope s_heads_of) .none kV21 dc21 pm21 an21 cd21 ct21),sl21⟩) (c21:PySem.W.codeIn K cd21 "heads_of" = true) (k21:PySem.W.keepIn K (.ref f21)=true)
    (a22:PySem.W.nsIn K mainGlobals "tags_of" = some (some (.ref f22))) (l22:K.lookup f22=some ⟨oc22,od22,.func (PySem.W.fnOf "tags_of" "tags_of" (defArgs s_tags_of) (defBody s_tags_of) (defScope s_tags_of) .none kV22 dc22 pm22 an22 cd22 ct22),sl22⟩) (c22:PySem.W.codeIn K cd22 "tags_of" = true) (k22:PySem.W.keepIn K (.ref f22)=true)
    (a23:PySem.W.nsIn K mainGlobals "heads_at" = some (some (.ref f23))) (l23:K.lookup f23=some ⟨oc23,od23,.func (PySem.W.fnOf "heads_at" "heads_at" (defArgs s_heads_at) (defBody s_heads_at) (defScope s_heads_at) .none kV23 dc23 pm23 an23 cd23 ct23),sl23⟩) (c23:PySem.W.codeIn K cd23 "heads_at" = true) (k23:PySem.W.keepIn K (.ref f23)=true)
    (a24:PySem.W.nsIn K mainGlobals "first_end" = some (some (.ref f24))) (l24:K.lookup f24=some ⟨oc24,od24,.func (PySem.W.fnOf "first_end" "first_end" (defArgs s_first_end) (defBody s_first_end) (defScope s_first_end) .none kV24 dc24 pm24 an24 cd24 ct24),sl24⟩) (c24:PySem.W.codeIn K cd24 "first_end" = true) (k24:PySem.W.keepIn K (.ref f24)=true)
    (a25:PySem.W.nsIn K mainGlobals "flow" = some (some (.ref f25))) (l25:K.lookup f25=some ⟨oc25,od25,.func (PySem.W.fnOf "flow" "flow" (defArgs s_flow) (defBody s_flow) (defScope s_flow) .none kV25 dc25 pm25 an25 cd25 ct25),sl25⟩) (c25:PySem.W.codeIn K cd25 "flow" = true) (k25:PySem.W.keepIn K (.ref f25)=true)
    (a26:PySem.W.nsIn K mainGlobals "spans" = some (some (.ref f26))) (l26:K.lookup f26=some ⟨oc26,od26,.func (PySem.W.fnOf "spans" "spans" (defArgs s_spans) (defBody s_spans) (defScope s_spans) .none kV26 dc26 pm26 an26 cd26 ct26),sl26⟩) (c26:PySem.W.codeIn K cd26 "spans" = true) (k26:PySem.W.keepIn K (.ref f26)=true)
    (a27:PySem.W.nsIn K mainGlobals "_law_cell_at" = some (some (.ref f27))) (l27:K.lookup f27=some ⟨oc27,od27,.func (PySem.W.fnOf "_law_cell_at" "_law_cell_at" (defArgs s__law_cell_at) (defBody s__law_cell_at) (defScope s__law_cell_at) .none kV27 dc27 pm27 an27 cd27 ct27),sl27⟩) (c27:PySem.W.codeIn K cd27 "_law_cell_at" = true) (k27:PySem.W.keepIn K (.ref f27)=true)
    (a28:PySem.W.nsIn K mainGlobals "_law_mix" = some (some (.ref f28))) (l28:K.lookup f28=some ⟨oc28,od28,.func (PySem.W.fnOf "_law_mix" "_law_mix" (defArgs s__law_mix) (defBody s__law_mix) (defScope s__law_mix) .none kV28 dc28 pm28 an28 cd28 ct28),sl28⟩) (c28:PySem.W.codeIn K cd28 "_law_mix" = true) (k28:PySem.W.keepIn K (.ref f28)=true)
    (a29:PySem.W.nsIn K mainGlobals "_law_senders" = some (some (.ref f29))) (l29:K.lookup f29=some ⟨oc29,od29,.func (PySem.W.fnOf "_law_senders" "_law_senders" (defArgs s__law_senders) (defBody s__law_senders) (defScope s__law_senders) .none kV29 dc29 pm29 an29 cd29 ct29),sl29⟩) (c29:PySem.W.codeIn K cd29 "_law_senders" = true) (k29:PySem.W.keepIn K (.ref f29)=true)
    (a30:PySem.W.nsIn K mainGlobals "_law_cuts" = some (some (.ref f30))) (l30:K.lookup f30=some ⟨oc30,od30,.func (PySem.W.fnOf "_law_cuts" "_law_cuts" (defArgs s__law_cuts) (defBody s__law_cuts) (defScope s__law_cuts) .none kV30 dc30 pm30 an30 cd30 ct30),sl30⟩) (c30:PySem.W.codeIn K cd30 "_law_cuts" = true) (k30:PySem.W.keepIn K (.ref f30)=true)
    (a31:PySem.W.nsIn K mainGlobals "_law_row" = some (some (.ref f31))) (l31:K.lookup f31=some ⟨oc31,od31,.func (PySem.W.fnOf "_law_row" "_law_row" (defArgs s__law_row) (defBody s__law_row) (defScope s__law_row) .none kV31 dc31 pm31 an31 cd31 ct31),sl31⟩) (c31:PySem.W.codeIn K cd31 "_law_row" = true) (k31:PySem.W.keepIn K (.ref f31)=true)
    (a32:PySem.W.nsIn K mainGlobals "law" = some (some (.ref f32))) (l32:K.lookup f32=some ⟨oc32,od32,.func (PySem.W.fnOf "law" "law" (defArgs s_law) (defBody s_law) (defScope s_law) .none kV32 dc32 pm32 an32 cd32 ct32),sl32⟩) (c32:PySem.W.codeIn K cd32 "law" = true) (k32:PySem.W.keepIn K (.ref f32)=true)
    (z1:PySem.W.nsIn K mainGlobals "abs" = some none)
    (z2:PySem.W.nsIn K mainGlobals "enumerate" = some none)
    (z3:PySem.W.nsIn K mainGlobals "sum" = some none)
    (z4:PySem.W.nsIn K mainGlobals "zip" = some none)
    (z5:PySem.W.nsIn K mainGlobals "range" = some none)
    (z6:PySem.W.nsIn K mainGlobals "len" = some none)
    (z7:PySem.W.nsIn K mainGlobals "max" = some none)
    (z8:PySem.W.nsIn K mainGlobals "min" = some none)
    (z9:PySem.W.nsIn K mainGlobals "list" = some none)
    {c_Tide:Addr}
    (b_Tide:PySem.W.nsIn K mainGlobals "Tide" = some (some (.ref c_Tide)))
    (pg_Tide:PySem.W.plainGet K c_Tide Str.empty=true)
    (hd_Tide:PySem.W.hasDictIn K c_Tide=true)
    (po_Tide:PySem.W.plainOver K c_Tide=true)
    (sa_Tide:PySem.W.findIn K (.ref c_Tide) "__setattr__" = some (some (.builtin "object.__setattr__")))
    (mk_Tide:PySem.W.makesIn K c_Tide=true)
    (kc_Tide:PySem.W.keepIn K (.ref c_Tide)=true)
    (na_Tide_latest:PySem.W.findIn K (.ref c_Tide) "latest" = some none)
    (na_Tide_reached:PySem.W.findIn K (.ref c_Tide) "reached" = some none)
    (na_Tide_unflowed:PySem.W.findIn K (.ref c_Tide) "unflowed" = some none)
    (na_Tide_last_ends:PySem.W.findIn K (.ref c_Tide) "last_ends" = some none)
    {i_Tide_init:Addr} {od_Tide_init an_Tide_init:Option Addr} {sl_Tide_init:Array (Option Value)} {oc_Tide_init kV_Tide_init dc_Tide_init pm_Tide_init co_Tide_init ct_Tide_init:Value}
    (a_Tide_init:PySem.W.findIn K (.ref c_Tide) "__init__" = some (some (.ref i_Tide_init)))
    (i_Tide_init_fn:PySem.W.isFn K (.ref i_Tide_init)=true)
    (l_Tide_init:K.lookup i_Tide_init=some ⟨oc_Tide_init,od_Tide_init,.func (PySem.W.fnOf "__init__" "Tide.__init__" (defArgs s_Tide_init) (defBody s_Tide_init) (defScope s_Tide_init) .none kV_Tide_init dc_Tide_init pm_Tide_init an_Tide_init co_Tide_init ct_Tide_init),sl_Tide_init⟩)
    (c_Tide_init_cd:PySem.W.codeIn K co_Tide_init "Tide.__init__" = true)
    (k_Tide_init:PySem.W.keepIn K (.ref i_Tide_init)=true)
    {i_Tide_mark:Addr} {od_Tide_mark an_Tide_mark:Option Addr} {sl_Tide_mark:Array (Option Value)} {oc_Tide_mark kV_Tide_mark dc_Tide_mark pm_Tide_mark co_Tide_mark ct_Tide_mark:Value}
    (a_Tide_mark:PySem.W.findIn K (.ref c_Tide) "mark" = some (some (.ref i_Tide_mark)))
    (i_Tide_mark_fn:PySem.W.isFn K (.ref i_Tide_mark)=true)
    (l_Tide_mark:K.lookup i_Tide_mark=some ⟨oc_Tide_mark,od_Tide_mark,.func (PySem.W.fnOf "mark" "Tide.mark" (defArgs s_Tide_mark) (defBody s_Tide_mark) (defScope s_Tide_mark) .none kV_Tide_mark dc_Tide_mark pm_Tide_mark an_Tide_mark co_Tide_mark ct_Tide_mark),sl_Tide_mark⟩)
    (c_Tide_mark_cd:PySem.W.codeIn K co_Tide_mark "Tide.mark" = true)
    (k_Tide_mark:PySem.W.keepIn K (.ref i_Tide_mark)=true)
    {i_Tide_come:Addr} {od_Tide_come an_Tide_come:Option Addr} {sl_Tide_come:Array (Option Value)} {oc_Tide_come kV_Tide_come dc_Tide_come pm_Tide_come co_Tide_come ct_Tide_come:Value}
    (a_Tide_come:PySem.W.findIn K (.ref c_Tide) "come" = some (some (.ref i_Tide_come)))
    (i_Tide_come_fn:PySem.W.isFn K (.ref i_Tide_come)=true)
    (l_Tide_come:K.lookup i_Tide_come=some ⟨oc_Tide_come,od_Tide_come,.func (PySem.W.fnOf "come" "Tide.come" (defArgs s_Tide_come) (defBody s_Tide_come) (defScope s_Tide_come) .none kV_Tide_come dc_Tide_come pm_Tide_come an_Tide_come co_Tide_come ct_Tide_come),sl_Tide_come⟩)
    (c_Tide_come_cd:PySem.W.codeIn K co_Tide_come "Tide.come" = true)
    (k_Tide_come:PySem.W.keepIn K (.ref i_Tide_come)=true)
    : ∃ fd:FuncData,(∀ (s:Shared) (v:Value),BindsTo s fd ⟨[v],[]⟩ [("_law_script", v)])∧∀ base:Heap,K.In base→base.Ns mainGlobals mg→FnOk l.prog w K mg base CX0 9 fa fd ["_law_script"] (spLaw K):=by
  have e:=hfa.symm.trans (PySem.W.mg_of X G a32)
  cases e
  have F1:=fun_mk (st:=s_divisor) l1 c1 k1
  have F2:=fun_mk (st:=s_ratio) l2 c2 k2
  have F3:=fun_mk (st:=s_plus) l3 c3 k3
  have F4:=fun_mk (st:=s_minus) l4 c4 k4
  have F5:=fun_mk (st:=s_times) l5 c5 k5
  have F6:=fun_mk (st:=s_over) l6 c6 k6
  have F7:=fun_mk (st:=s_under) l7 c7 k7
  have F8:=fun_mk (st:=s_lesser) l8 c8 k8
  have F9:=fun_mk (st:=s_greater) l9 c9 k9
  have F10:=fun_mk (st:=s_least) l10 c10 k10
  have F11:=fun_mk (st:=s_total) l11 c11 k11
  have F12:=fun_mk (st:=s_check_rates) l12 c12 k12
  have F13:=fun_mk (st:=s_full_ones) l13 c13 k13
  have F14:=fun_mk (st:=s_outs_of) l14 c14 k14
  have F15:=fun_mk (st:=s_time_to_empty) l15 c15 k15
  have F16:=fun_mk (st:=s_course) l16 c16 k16
  have F17:=fun_mk (st:=s_greatest) l17 c17 k17
  have F18:=fun_mk (st:=s_piles) l18 c18 k18
  have F19:=fun_mk (st:=s_waits_at_turns) l19 c19 k19
  have F20:=fun_mk (st:=s_waits) l20 c20 k20
  have F21:=fun_mk (st:=s_heads_of) l21 c21 k21
  have F22:=fun_mk (st:=s_tags_of) l22 c22 k22
  have F23:=fun_mk (st:=s_heads_at) l23 c23 k23
  have F24:=fun_mk (st:=s_first_end) l24 c24 k24
  have F25:=fun_mk (st:=s_flow) l25 c25 k25
  have F26:=fun_mk (st:=s_spans) l26 c26 k26
  have F27:=fun_mk (st:=s__law_cell_at) l27 c27 k27
  have F28:=fun_mk (st:=s__law_mix) l28 c28 k28
  have F29:=fun_mk (st:=s__law_senders) l29 c29 k29
  have F30:=fun_mk (st:=s__law_cuts) l30 c30 k30
  have F31:=fun_mk (st:=s__law_row) l31 c31 k31
  have F_Tide_init:=funE_mk (st:=s_Tide_init) l_Tide_init c_Tide_init_cd
  have B_Tide_init:=(fun_mk (st:=s_Tide_init) l_Tide_init c_Tide_init_cd k_Tide_init).binds (ps:=["self"]) (fun _ _ _ _ _ _=>L2.el1 (fun _=>rfl))
  have F_Tide_mark:=funE_mk (st:=s_Tide_mark) l_Tide_mark c_Tide_mark_cd
  have B_Tide_mark:=(fun_mk (st:=s_Tide_mark) l_Tide_mark c_Tide_mark_cd k_Tide_mark).binds (ps:=["self", "at"]) (fun _ _ _ _ _ _=>L2.el2 (fun _ _=>rfl))
  have F_Tide_come:=funE_mk (st:=s_Tide_come) l_Tide_come c_Tide_come_cd
  have B_Tide_come:=(fun_mk (st:=s_Tide_come) l_Tide_come c_Tide_come_cd k_Tide_come).binds (ps:=["self", "piece"]) (fun _ _ _ _ _ _=>L2.el2 (fun _ _=>rfl))
  have T:Txt K mg c_Tide:=⟨PySem.W.mg_none_of X G z1,PySem.W.mg_none_of X G z2,PySem.W.mg_none_of X G z3,PySem.W.mg_none_of X G z4,PySem.W.mg_none_of X G z5,PySem.W.mg_none_of X G z6,PySem.W.mg_none_of X G z7,PySem.W.mg_none_of X G z8,PySem.W.mg_none_of X G z9,⟨_,_,F1,F1.binds (ps:=["one", "other"]) (fun _ _ _ _ _ _=>L2.el2 (fun _ _=>rfl)),PySem.W.mg_of X G a1⟩,⟨_,_,F2,F2.binds (ps:=["top", "bottom"]) (fun _ _ _ _ _ _=>L2.el2 (fun _ _=>rfl)),PySem.W.mg_of X G a2⟩,⟨_,_,F3,F3.binds (ps:=["one", "other"]) (fun _ _ _ _ _ _=>L2.el2 (fun _ _=>rfl)),PySem.W.mg_of X G a3⟩,⟨_,_,F4,F4.binds (ps:=["one", "other"]) (fun _ _ _ _ _ _=>L2.el2 (fun _ _=>rfl)),PySem.W.mg_of X G a4⟩,⟨_,_,F5,F5.binds (ps:=["one", "other"]) (fun _ _ _ _ _ _=>L2.el2 (fun _ _=>rfl)),PySem.W.mg_of X G a5⟩,⟨_,_,F6,F6.binds (ps:=["one", "other"]) (fun _ _ _ _ _ _=>L2.el2 (fun _ _=>rfl)),PySem.W.mg_of X G a6⟩,⟨_,_,F7,F7.binds (ps:=["one", "other"]) (fun _ _ _ _ _ _=>L2.el2 (fun _ _=>rfl)),PySem.W.mg_of X G a7⟩,⟨_,_,F8,F8.binds (ps:=["one", "other"]) (fun _ _ _ _ _ _=>L2.el2 (fun _ _=>rfl)),PySem.W.mg_of X G a8⟩,⟨_,_,F9,F9.binds (ps:=["one", "other"]) (fun _ _ _ _ _ _=>L2.el2 (fun _ _=>rfl)),PySem.W.mg_of X G a9⟩,⟨_,_,F10,F10.binds (ps:=["some"]) (fun _ _ _ _ _ _=>L2.el1 (fun _=>rfl)),PySem.W.mg_of X G a10⟩,⟨_,_,F11,F11.binds (ps:=["some"]) (fun _ _ _ _ _ _=>L2.el1 (fun _=>rfl)),PySem.W.mg_of X G a11⟩,⟨_,_,F12,F12.binds (ps:=["senders"]) (fun _ _ _ _ _ _=>L2.el1 (fun _=>rfl)),PySem.W.mg_of X G a12⟩,⟨_,_,F13,F13.binds (ps:=["heaps"]) (fun _ _ _ _ _ _=>L2.el1 (fun _=>rfl)),PySem.W.mg_of X G a13⟩,⟨_,_,F14,F14.binds (ps:=["senders", "heaps"]) (fun _ _ _ _ _ _=>L2.el2 (fun _ _=>rfl)),PySem.W.mg_of X G a14⟩,⟨_,_,F15,F15.binds (ps:=["heaps", "falls"]) (fun _ _ _ _ _ _=>L2.el2 (fun _ _=>rfl)),PySem.W.mg_of X G a15⟩,⟨_,_,F16,F16.binds (ps:=["senders"]) (fun _ _ _ _ _ _=>L2.el1 (fun _=>rfl)),PySem.W.mg_of X G a16⟩,⟨_,_,F17,F17.binds (ps:=["some"]) (fun _ _ _ _ _ _=>L2.el1 (fun _=>rfl)),PySem.W.mg_of X G a17⟩,⟨_,_,F18,F18.binds (ps:=["senders"]) (fun _ _ _ _ _ _=>L2.el1 (fun _=>rfl)),PySem.W.mg_of X G a18⟩,⟨_,_,F19,F19.binds (ps:=["parts", "number", "line"]) (fun _ _ _ _ _ _=>L2.el3 (fun _ _ _=>rfl)),PySem.W.mg_of X G a19⟩,⟨_,_,F20,F20.binds (ps:=["senders"]) (fun _ _ _ _ _ _=>L2.el1 (fun _=>rfl)),PySem.W.mg_of X G a20⟩,⟨_,_,F21,F21.binds (ps:=["tagged", "mark"]) (fun _ _ _ _ _ _=>L2.el2 (fun _ _=>rfl)),PySem.W.mg_of X G a21⟩,⟨_,_,F22,F22.binds (ps:=["row"]) (fun _ _ _ _ _ _=>L2.el1 (fun _=>rfl)),PySem.W.mg_of X G a22⟩,⟨_,_,F23,F23.binds (ps:=["row", "tags", "moment", "mark"]) (fun _ _ _ _ _ _=>L2.el4 (fun _ _ _ _=>rfl)),PySem.W.mg_of X G a23⟩,⟨_,_,F24,F24.binds (ps:=["tags", "heads", "shares", "moment", "mark"]) (fun _ _ _ _ _ _=>L2.el5 (fun _ _ _ _ _=>rfl)),PySem.W.mg_of X G a24⟩,⟨_,_,F25,F25.binds (ps:=["row"]) (fun _ _ _ _ _ _=>L2.el1 (fun _=>rfl)),PySem.W.mg_of X G a25⟩,⟨_,_,F26,F26.binds (ps:=["row"]) (fun _ _ _ _ _ _=>L2.el1 (fun _=>rfl)),PySem.W.mg_of X G a26⟩,⟨_,_,F27,F27.binds (ps:=["_law_script", "_law_k"]) (fun _ _ _ _ _ _=>L2.el2 (fun _ _=>rfl)),PySem.W.mg_of X G a27⟩,⟨_,_,F28,F28.binds (ps:=["_law_cell", "_law_k"]) (fun _ _ _ _ _ _=>L2.el2 (fun _ _=>rfl)),PySem.W.mg_of X G a28⟩,⟨_,_,F29,F29.binds (ps:=["_law_script"]) (fun _ _ _ _ _ _=>L2.el1 (fun _=>rfl)),PySem.W.mg_of X G a29⟩,⟨_,_,F30,F30.binds (ps:=["_law_burst", "_law_cell"]) (fun _ _ _ _ _ _=>L2.el2 (fun _ _=>rfl)),PySem.W.mg_of X G a30⟩,⟨_,_,F31,F31.binds (ps:=["_law_script", "_law_senders_here", "_law_at"]) (fun _ _ _ _ _ _=>L2.el3 (fun _ _ _=>rfl)),PySem.W.mg_of X G a31⟩,PySem.W.mg_of X G b_Tide,⟨pg_Tide,hd_Tide,po_Tide,sa_Tide⟩,na_Tide_latest,na_Tide_reached,na_Tide_unflowed,na_Tide_last_ends,⟨⟨_,_,F_Tide_init,⟨mk_Tide,a_Tide_init,i_Tide_init_fn,kc_Tide⟩,(fun dvs h=>by simp only [List.mem_cons,List.not_mem_nil,or_false] at h; subst h; exact BindsV.nil B_Tide_init)⟩⟩,⟨⟨_,_,F_Tide_mark,⟨a_Tide_mark,i_Tide_mark_fn,k_Tide_mark⟩,(fun dvs h=>by simp only [List.mem_cons,List.not_mem_nil,or_false] at h; subst h; exact BindsV.nil B_Tide_mark)⟩⟩,⟨⟨_,_,F_Tide_come,⟨a_Tide_come,i_Tide_come_fn,k_Tide_come⟩,(fun dvs h=>by simp only [List.mem_cons,List.not_mem_nil,or_false] at h; subst h; exact BindsV.nil B_Tide_come)⟩⟩⟩
  exact ⟨PySem.W.fnOf "law" "law" (defArgs s_law) (defBody s_law) (defScope s_law) .none kV32 dc32 pm32 an32 cd32 ct32,fun s v=>.of_eq rfl,fun base _ _=>ok_law (fun_mk (st:=s_law) l32 c32 k32) T⟩
theorem walk {l:PySem.W.OpenLaw} {q:Program} {loose:List Str} {XP:(Str→Option Value)→Heap→Prop} {YP:World→Heap→Prop} {d:DefRec} {K:Params→PySem.W.Frag} (hn:l.most=some 63) (hdf:d.params.defaults = [])
    (hY:∀ (w:World) (h:Heap),YP w h→(K w.params).In h)
    (F:∀ (w:World) (mg:Str→Option Value) (fa:Addr) (h:Heap),(K w.params).In h→h.Ns mainGlobals mg→mg d.name=some (.ref fa) →
      ∃ fd:FuncData,(∀ (s:Shared) (u:Value),BindsTo s fd ⟨[u],[]⟩ [("_law_script", u)])∧∀ base:Heap,(K w.params).In base→base.Ns mainGlobals mg→FnOk l.prog w (K w.params) mg base CX0 9 fa fd ["_law_script"] (spLaw (K w.params))) :
    PySem.W.WalkO q loose XP YP l.row.toRowW d [] (fun f vs=>PySem.call f vs) :=
  L2.walk_of (n:=63) (k:=9) (x := "_law_script") (CX:=fun _=>CX0) (sp:=fun w=>spLaw (K w.params)) hn (by decide) hdf ⟨rfl,by decide,by decide⟩ hY F (fun _ _ a ns hl _ hS=>⟨a,ns,rfl,hS,hl,fun _=>rfl⟩) fun _ _ _ _ _ z=>z
end K48
theorem PySem.W.Fast.tw17592582226016189792 : True := trivial
theorem PySem.W.Fast.tw11989123761391110489 : True := trivial
theorem PySem.W.Fast.tw10072061412114736810 : True := trivial
theorem PySem.W.Fast.tw6488916439289248090 : True := trivial
theorem PySem.W.Fast.tw9949488363385378238 : True := trivial
theorem PySem.W.Fast.te1100856945825276116:True:=trivial
theorem PySem.W.Fast.tw10180185750173006789:True:=trivial
theorem PySem.W.Fast.tw10856898242211186085:True:=trivial
theorem PySem.W.Fast.tw2008487398300701550:True:=trivial
theorem PySem.W.Fast.tw6179077506336698310:True:=trivial
theorem PySem.W.Fast.tw9432312156400959627:True:=trivial
theorem PySem.W.Fast.tw9861649917996292319:True:=trivial
open PySem PySem.W PyProof.Rows
set_option maxRecDepth 100000 in
set_option maxHeartbeats 0 in
theorem PySem.Challenge.cw_sharewheel_k48_whole_bursts_alone_holds : PySem.Challenge.rw_sharewheel_k48_whole_bursts_alone.Holds := by
  w_on; o_law; k_head; (case hw=>w_witness2)
  k_fill
  refine K48.walk (l:=PySem.Challenge.rw_sharewheel_k48_whole_bursts_alone) rfl rfl (fun w h Y=>PySem.W.kIn_of Y) ?F
  case F =>
    intro w mg fa h KX G hmg
    refine' K48.all_mk KX G hmg ?a1 ?l1 ?c1 ?k1 ?a2 ?l2 ?c2 ?k2 ?a3 ?l3 ?c3 ?k3 ?a4 ?l4 ?c4 ?k4 ?a5 ?l5 ?c5 ?k5 ?a6 ?l6 ?c6 ?k6 ?a7 ?l7 ?c7 ?k7 ?a8 ?l8 ?c8 ?k8 ?a9 ?l9 ?c9 ?k9 ?a10 ?l10 ?c10 ?k10 ?a11 ?l11 ?c11 ?k11 ?a12 ?l12 ?c12 ?k12 ?a13 ?l13 ?c13 ?k13 ?a14 ?l14 ?c14 ?k14 ?a15 ?l15 ?c15 ?k15 ?a16 ?l16 ?c16 ?k16 ?a17 ?l17 ?c17 ?k17 ?a18 ?l18 ?c18 ?k18 ?a19 ?l19 ?c19 ?k19 ?a20 ?l20 ?c20 ?k20 ?a21 ?l21 ?c21 ?k21 ?a22 ?l22 ?c22 ?k22 ?a23 ?l23 ?c23 ?k23 ?a24 ?l24 ?c24 ?k24 ?a25 ?l25 ?c25 ?k25 ?a26 ?l26 ?c26 ?k26 ?a27 ?l27 ?c27 ?k27 ?a28 ?l28 ?c28 ?k28 ?a29 ?l29 ?c29 ?k29 ?a30 ?l30 ?c30 ?k30 ?a31 ?l31 ?c31 ?k31 ?a32 ?l32 ?c32 ?k32 ?z1 ?z2 ?z3 ?z4 ?z5 ?z6 ?z7 ?z8 ?z9 ?b_Tide ?pg_Tide ?hd_Tide ?po_Tide ?sa_Tide ?mk_Tide ?kc_Tide ?na_Tide_latest ?na_Tide_reached ?na_Tide_unflowed ?na_Tide_last_ends ?a_Tide_init ?i_Tide_init_fn ?l_Tide_init ?c_Tide_init_cd ?k_Tide_init ?a_Tide_mark ?i_Tide_mark_fn ?l_Tide_mark ?c_Tide_mark_cd ?k_Tide_mark ?a_Tide_come ?i_Tide_come_fn ?l_Tide_come ?c_Tide_come_cd ?k_Tide_come
    (case a1=>k_is)
    (case l1=>k_is)
    (case c1=>k_is)
    (case k1=>k_is)
    (case a2=>k_is)
    (case l2=>k_is)
    (case c2=>k_is)
    (case k2=>k_is)
    (case a3=>k_is)
    (case l3=>k_is)
    (case c3=>k_is)
    (case k3=>k_is)
    (case a4=>k_is)
    (case l4=>k_is)
    (case c4=>k_is)
    (case k4=>k_is)
    (case a5=>k_is)
    (case l5=>k_is)
    (case c5=>k_is)
    (case k5=>k_is)
    (case a6=>k_is)
    (case l6=>k_is)
    (case c6=>k_is)
    (case k6=>k_is)
    (case a7=>k_is)
    (case l7=>k_is)
    (case c7=>k_is)
    (case k7=>k_is)
    (case a8=>k_is)
    (case l8=>k_is)
    (case c8=>k_is)
    (case k8=>k_is)
    (case a9=>k_is)
    (case l9=>k_is)
    (case c9=>k_is)
    (case k9=>k_is)
    (case a10=>k_is)
    (case l10=>k_is)
    (case c10=>k_is)
    (case k10=>k_is)
    (case a11=>k_is)
    (case l11=>k_is)
    (case c11=>k_is)
    (case k11=>k_is)
    (case a12=>k_is)
    (case l12=>k_is)
    (case c12=>k_is)
    (case k12=>k_is)
    (case a13=>k_is)
    (case l13=>k_is)
    (case c13=>k_is)
    (case k13=>k_is)
    (case a14=>k_is)
    (case l14=>k_is)
    (case c14=>k_is)
    (case k14=>k_is)
    (case a15=>k_is)
    (case l15=>k_is)
    (case c15=>k_is)
    (case k15=>k_is)
    (case a16=>k_is)
    (case l16=>k_is)
    (case c16=>k_is)
    (case k16=>k_is)
    (case a17=>k_is)
    (case l17=>k_is)
    (case c17=>k_is)
    (case k17=>k_is)
    (case a18=>k_is)
    (case l18=>k_is)
    (case c18=>k_is)
    (case k18=>k_is)
    (case a19=>k_is)
    (case l19=>k_is)
    (case c19=>k_is)
    (case k19=>k_is)
    (case a20=>k_is)
    (case l20=>k_is)
    (case c20=>k_is)
    (case k20=>k_is)
    (case a21=>k_is)
    (case l21=>k_is)
    (case c21=>k_is)
    (case k21=>k_is)
    (case a22=>k_is)
    (case l22=>k_is)
    (case c22=>k_is)
    (case k22=>k_is)
    (case a23=>k_is)
    (case l23=>k_is)
    (case c23=>k_is)
    (case k23=>k_is)
    (case a24=>k_is)
    (case l24=>k_is)
    (case c24=>k_is)
    (case k24=>k_is)
    (case a25=>k_is)
    (case l25=>k_is)
    (case c25=>k_is)
    (case k25=>k_is)
    (case a26=>k_is)
    (case l26=>k_is)
    (case c26=>k_is)
    (case k26=>k_is)
    (case a27=>k_is)
    (case l27=>k_is)
    (case c27=>k_is)
    (case k27=>k_is)
    (case a28=>k_is)
    (case l28=>k_is)
    (case c28=>k_is)
    (case k28=>k_is)
    (case a29=>k_is)
    (case l29=>k_is)
    (case c29=>k_is)
    (case k29=>k_is)
    (case a30=>k_is)
    (case l30=>k_is)
    (case c30=>k_is)
    (case k30=>k_is)
    (case a31=>k_is)
    (case l31=>k_is)
    (case c31=>k_is)
    (case k31=>k_is)
    (case a32=>k_is)
    (case l32=>k_is)
    (case c32=>k_is)
    (case k32=>k_is)
    (case z1=>k_is)
    (case z2=>k_is)
    (case z3=>k_is)
    (case z4=>k_is)
    (case z5=>k_is)
    (case z6=>k_is)
    (case z7=>k_is)
    (case z8=>k_is)
    (case z9=>k_is)
    (case b_Tide=>k_is)
    (case pg_Tide=>k_is)
    (case hd_Tide=>k_is)
    (case po_Tide=>k_is)
    (case sa_Tide=>k_is)
    (case mk_Tide=>k_is)
    (case kc_Tide=>k_is)
    (case na_Tide_latest=>k_is)
    (case na_Tide_reached=>k_is)
    (case na_Tide_unflowed=>k_is)
    (case na_Tide_last_ends=>k_is)
    (case a_Tide_init=>k_is)
    (case i_Tide_init_fn=>k_is)
    (case l_Tide_init=>k_is)
    (case c_Tide_init_cd=>k_is)
    (case k_Tide_init=>k_is)
    (case a_Tide_mark=>k_is)
    (case i_Tide_mark_fn=>k_is)
    (case l_Tide_mark=>k_is)
    (case c_Tide_mark_cd=>k_is)
    (case k_Tide_mark=>k_is)
    (case a_Tide_come=>k_is)
    (case i_Tide_come_fn=>k_is)
    (case l_Tide_come=>k_is)
    (case c_Tide_come_cd=>k_is)
    (case k_Tide_come=>k_is)
