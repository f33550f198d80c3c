import PyProof.Rows.All
import Wide.All
import OpenK.AllK
import Wide.FinOn
import Lean
import PyProof.EqAt
import PyProof.EqKinds
import PyProof.TupleCall
import PySem.Challenge.RW_sharewheel_k66_what_a_tree_refuses
set_option Elab.async false
set_option linter.all false
set_option maxRecDepth 100000
namespace L2
open PySem PySem.Spec PyProof.Rows
abbrev Key:=Sum Int Str
def keyIs:Key->Value->Bool
 | .inl k,v=>Value.isInt k v
 | .inr x,v=>Value.isStrOf x v
def keyH (w:World):Key->Int
 | .inl k=>hashInt k
 | .inr x=>hashStr w x
theorem zco:∀ {k:Key} {v:Value},keyIs k v=true->(∃ i t,k=Sum.inl i/\v=Value.int i t)\/(∃ x t,k=Sum.inr x/\v=Value.str x t)
 | .inl i,v,h=>by
  obtain ⟨t,e⟩:=Value.isInt_shape (k:=i) (v:=v) h
  exact .inl ⟨i,t,rfl,e⟩
 | .inr x,v,h=>by
  obtain ⟨t,e⟩:=Value.isStrOf_shape (x:=x) (v:=v) h
  exact .inr ⟨x,t,rfl,e⟩
theorem zqo (i:Int) (t:Tok):keyIs (.inl i) (.int i t)=true:=by simp [keyIs,Value.isInt]
theorem zqp (x:Str) (t:Tok):keyIs (.inr x) (.str x t)=true:=by simp [keyIs,Value.isStrOf]
theorem zww (a b:Int):decide ((Sum.inl a:Key)=Sum.inl b)=(a == b):=by
 by_cases e:a=b
 ·subst e; simp
 ·have h:¬ (Sum.inl a:Key)=Sum.inl b:=fun q=>e (Sum.inl.inj q)
  rw [decide_eq_false h]
  exact (beq_eq_false_iff_ne.mpr e).symm
theorem zwx (a b:Str):decide ((Sum.inr a:Key)=Sum.inr b)=decide (a=b):=by
 by_cases e:a=b
 ·subst e; simp
 ·have h:¬ (Sum.inr a:Key)=Sum.inr b:=fun q=>e (Sum.inr.inj q)
  rw [decide_eq_false h,decide_eq_false e]
theorem zwy (a:Int) (b:Str):decide ((Sum.inl a:Key)=Sum.inr b)=false:=decide_eq_false (fun q=>nomatch q)
theorem zwz (a:Str) (b:Int):decide ((Sum.inr a:Key)=Sum.inl b)=false:=decide_eq_false (fun q=>nomatch q)
def zbf (prog:Program) (w:World):PySem.KeyKind prog w Key where
 is:=keyIs
 hash:=keyH w
 inj:=fun v a b ha hb=>by
  rcases zco ha with ⟨i,t,rfl,rfl⟩ | ⟨x,t,rfl,rfl⟩
  ·rcases zco hb with ⟨j,u,rfl,e⟩ | ⟨y,u,rfl,e⟩
   ·injection e with e1 _; rw [e1]
   ·exact nomatch e
  ·rcases zco hb with ⟨j,u,rfl,e⟩ | ⟨y,u,rfl,e⟩
   ·exact nomatch e
   ·injection e with e1 _; rw [e1]
 byValue:=fun k v h=>by
  rcases zco h with ⟨i,t,rfl,rfl⟩ | ⟨x,t,rfl,rfl⟩ <;> rfl
 pyHash:=fun hv h=>by
  rcases zco hv with ⟨i,t,rfl,rfl⟩ | ⟨x,t,rfl,rfl⟩
  ·exact wpAny_pyHash_int h
  ·exact wpAny_pyHash_str h
 eqBool:=fun hu hv h=>by
  rcases zco hu with ⟨i,t,rfl,rfl⟩ | ⟨x,t,rfl,rfl⟩
  ·rcases zco hv with ⟨j,u,rfl,rfl⟩ | ⟨y,u,rfl,rfl⟩
   ·rw [zww] at h; exact wpAny_eqBool_int h
   ·rw [zwy] at h; exact SeqAt.EqAt.int_str i t y u _ _ _ _ h
  ·rcases zco hv with ⟨j,u,rfl,rfl⟩ | ⟨y,u,rfl,rfl⟩
   ·rw [zwz] at h; exact SeqAt.EqAt.str_int x t j u _ _ _ _ h
   ·rw [zwx] at h; exact wpAny_eqBool_str h
 «strs»:=fun k x t v h=>by
  rcases zco h with ⟨i,u,rfl,e⟩ | ⟨y,u,rfl,e⟩
  ·exact nomatch e
  ·injection e with e1 _
   subst e1
   cases v <;> rfl
theorem znl (prog:Program) (w:World) (i:Int) (t:Tok):(zbf prog w).is (.inl i) (.int i t)=true:=zqo i t
theorem znm (prog:Program) (w:World) (x:Str) (t:Tok):(zbf prog w).is (.inr x) (.str x t)=true:=zqp x t
end L2
namespace L2
open PySem PySem.Spec PyProof.Rows
inductive V where
 | non | bl (b:Bool) | int (i:Int) | str (x:Str) | byt (b:Array UInt8) | flt (b:UInt64) | ref (a:Addr) | ty (n:String)
 deriving DecidableEq
def RelV:V->Value->Prop
 | .non,u=>u=Value.none
 | .bl b,u=>u=Value.bool b
 | .int i,u=>∃ t,u=Value.int i t
 | .str x,u=>∃ t,u=Value.str x t
 | .byt b,u=>∃ t,u=Value.bytes b t
 | .flt b,u=>∃ t,u=Value.float b t
 | .ref a,u=>u=Value.ref a
 | .ty n,u=>u=Value.type n
abbrev Vals:List V->List Value->Prop:=Paired RelV
theorem Vals.length {xs:List V} {us:List Value} (r:Vals xs us):xs.length=us.length:=Paired.length r
theorem Vals.get:∀ {xs:List V} {us:List Value} {i:Nat} {x:V},Vals xs us->xs[i]? = some x->∃ u,us[i]? = some u/\RelV x u
 | _,_,_,_,.nil,e=>by simp at e
 | _,_,0,_,.cons r _,e=>by simp at e; subst e; exact ⟨_,rfl,r⟩
 | _,_,i+1,x,.cons _ t,e=>by
  obtain ⟨u,h1,h2⟩:=Vals.get (i:=i) (x:=x) t (by simpa using e)
  exact ⟨u,by simpa using h1,h2⟩
theorem Vals.set {x:V} {u:Value} (r:RelV x u):∀ {xs:List V} {us:List Value} (i:Nat),Vals xs us->Vals (xs.set i x) (us.set i u)
 | _,_,_,.nil=>.nil
 | _,_,0,.cons _ t=>.cons r t
 | _,_,i+1,.cons q t=>.cons q (Vals.set r i t)
theorem Vals.append:∀ {xs ys:List V} {us ws:List Value},Vals xs us->Vals ys ws->Vals (xs++ys) (us++ws)
 | _,_,_,_,.nil,s=>s
 | _,_,_,_,.cons r t,s=>.cons r (Vals.append t s)
theorem Vals.take:∀ {xs:List V} {us:List Value} (n:Nat),Vals xs us->Vals (xs.take n) (us.take n)
 | _,_,0,_=>.nil
 | _,_,_ + 1,.nil=>.nil
 | _,_,n+1,.cons r t=>.cons r (Vals.take n t)
theorem Vals.drop:∀ {xs:List V} {us:List Value} (n:Nat),Vals xs us->Vals (xs.drop n) (us.drop n)
 | _,_,0,r=>r
 | _,_,_ + 1,.nil=>.nil
 | _,_,n+1,.cons _ t=>Vals.drop n t
def RelO:Option V->Option Value->Prop
 | some v,some u=>RelV v u
 | none,none=>True
 | _,_=>False
def KV {κ:Type}:List (κ×V)->List (κ×Value)->Prop:=Paired fun (p:κ×V) (q:κ×Value)=>p.1=q.1/\RelV p.2 q.2
def kV:Key->V
 | .inl i=>.int i
 | .inr x=>.str x
inductive HO where
 | lst (xs:List V)
 | tup (xs:List V)
 | dK (kvs:List (Key×V)) | dT (kvs:List (List Key×V))
 | set (S:Int->Bool) (n:Nat)
 | ins (C dx:Addr) (fs:List (Str×V))
 | own (x:Addr)
 | xd (fs:List (Str×V))
 | met (f x:Addr)
 | rng (lo hi:Int)
 | frz (o:Obj) (u:HO)
 | tbl (ps:Array Value)
 | ext (φ:Heap->Prop)
abbrev Hp:=Addr->Option HO
def upd (H:Hp) (a:Addr) (o:HO):Hp:=fun b=>if b=a then some o else H b
theorem zac {H:Hp} {a:Addr} {o:HO}:upd H a o a=some o:=by unfold upd; rw [if_pos rfl]
theorem zai {H:Hp} {a b:Addr} {o:HO} (h:b≠a):upd H a o b=H b:=by unfold upd; rw [if_neg h]
theorem zeh {H:Hp} {a:Addr} {o u:HO}:upd (upd H a o) a u=upd H a u:=by
 funext b; unfold upd; split <;> rfl
theorem ne_of {H:Hp} {a b:Addr} {o u:HO} (h:H a=some o) (h':H b=some u) (d:o≠u):a≠b:=by
 intro e; subst e; rw [h] at h'; exact d (Option.some.inj h')
theorem zao {H:Hp} {a b:Addr} {o:HO} (h:H a=some o) (h':H b=none):a≠b:=by
 intro e; subst e; rw [h] at h'; cases h'
section
variable (P:Program) (w:World)
def ObjOk (H:Hp) (h:Heap) (a:Addr):HO->Prop
  | .lst xs=>xs.length<=sizeLine/\∃ (its:List Value) (n:Nat),Vals xs its/\h.get? a=some { cls:=.type "list", data:=.seq its.toArray n }
  | .tup xs=>xs.length<=sizeLine/\∃ its:List Value,Vals xs its/\IsTup h a its.toArray
  | .dK kvs=>kvs.length<=sizeLine/\(a == sysModules)=false/\∃ vs,KV kvs vs/\h.DictOf (zbf P w) a vs
  | .dT kvs=>kvs.length<=sizeLine/\(a == sysModules)=false/\∃ xs:List (List Key×Addr×Value),
      Paired (fun (p:List Key×V) (q:List Key×Addr×Value)=>p.1=q.1/\H q.2.1=some (.tup (p.1.map kV))/\RelV p.2 q.2.2) kvs xs /\
      ∃ o es ep,h.get? a=some o/\o.ExactDict/\o.data = .dict es ep/\es.toList=xs.map (entryOfKey (tupleKind (zbf P w)))/\(xs.map (·.1)).Nodup
  | .set S n=>h.SetOf (intKind P w) a S n
  | .ins C dx fs=>H dx=some (.own a)/\fs.length<=1000/\dx≠a/\h.get? a=some (PySem.W.instObj C dx) /\
      ∃ mA,h.Ns1 dx mA/\(∀ f,RelO (fs.lookup f) (mA f))/\PySem.Within mA (fs.map (·.1))
  | .own _=>∃ o,h.get? a=some o
  | .xd fs=>∃ mA,h.Ns1 a mA/\∀ f,RelO (fs.lookup f) (mA f)
  | .rng lo hi=>∃ t u v,h.get? a=some { cls:=.type "range", data:=.fields #[.int lo t,.int hi u,.int 1 v] }
  | .frz o u=>h.get? a=some o/\ObjOk H h a u
  | .tbl ps=>h.get? a=some { cls:=.none,data:=.fields ps }
  | .met f x=>h.get? a=some (PySem.W.methodObj (.ref f) (.ref x))
  | .ext φ=>φ h/\(∃ o,h.get? a=some o)/\∀ h1 h2:Heap,φ h1->(∀ o,h1.get? a=some o->h2.get? a=some o)->φ h2
def HOk (H:Hp) (h:Heap):Prop:=∀ a o,H a=some o->ObjOk P w H h a o
end
section
variable {P:Program} {w:World} {H H':Hp} {h h':Heap} {a:Addr} {o:HO}
theorem ObjOk.lt (x:ObjOk P w H h a o):a<h.objs.size:=by
 cases o with
 | lst xs=>obtain ⟨_,_,_,_,e⟩:=x; exact Heap.lt_size e
 | tup xs=>obtain ⟨_,_,_,p⟩:=x; exact p.lt
 | dK kvs=>obtain ⟨_,_,_,_,o,_,_,e,_⟩:=x; exact Heap.lt_size e
 | dT kvs=>obtain ⟨_,_,_,_,o,_,_,e,_⟩:=x; exact Heap.lt_size e
 | set S n=>obtain ⟨o,_,_,_,e,_⟩:=x; exact Heap.lt_size e
 | ins C dx fs=>obtain ⟨_,_,_,e,_⟩:=x; exact Heap.lt_size e
 | own y=>obtain ⟨_,e⟩:=x; exact Heap.lt_size e
 | xd fs=>obtain ⟨_,⟨_,_,_,e,_⟩,_⟩:=x; exact Heap.lt_size e
 | rng lo hi=>obtain ⟨_,_,_,e⟩:=x; exact Heap.lt_size e
 | frz ob u=>obtain ⟨e,_⟩:=x; exact Heap.lt_size e
 | tbl ps=>exact Heap.lt_size (show h.get? a=some _ from x)
 | met f y=>exact Heap.lt_size (show h.get? a=some _ from x)
 | ext φ=>obtain ⟨_,⟨_,e⟩,_⟩:=x; exact Heap.lt_size e
theorem Paired.mapP {α β:Type} {F G:α->β->Prop}:∀ {l₁:List α} {l₂:List β},Paired F l₁ l₂->(∀ a b,F a b->G a b)->Paired G l₁ l₂
 | _,_,.nil,_=>.nil
 | _,_,.cons r t,f=>.cons (f _ _ r) (Paired.mapP t f)
theorem ObjOk.stay (x:ObjOk P w H h a o) (k:∀ b u,(b=a\/H b=some (.own a))->h.get? b=some u->h'.get? b=some u)
    (ho:∀ b,H b=some (.own a)->H' b=some (.own a)) (ht:∀ b xs,H b=some (.tup xs)->H' b=some (.tup xs)):ObjOk P w H' h' a o:=by
  induction o with
  | lst xs=>obtain ⟨z,its,n,r,e⟩:=x; exact ⟨z,its,n,r,k _ _ (.inl rfl) e⟩
  | tup xs=>obtain ⟨z,its,r,ob,e,c⟩:=x; exact ⟨z,its,r,ob,k _ _ (.inl rfl) e,c⟩
  | dK kvs=>obtain ⟨z,y,vs,r,ob,es,ep,e,c⟩:=x; exact ⟨z,y,vs,r,ob,es,ep,k _ _ (.inl rfl) e,c⟩
  | dT kvs =>
    obtain ⟨z,y,xs,r,ob,es,ep,e,c⟩:=x
    exact ⟨z,y,xs,Paired.mapP r fun p q z=>⟨z.1,ht _ _ z.2.1,z.2.2⟩,ob,es,ep,k _ _ (.inl rfl) e,c⟩
  | set S n=>obtain ⟨ob,es,ep,t,e,c⟩:=x; exact ⟨ob,es,ep,t,k _ _ (.inl rfl) e,c⟩
  | ins C dx fs =>
    obtain ⟨d,z,ne,e,mA,⟨od,es,ep,e2,c⟩,r⟩:=x
    exact ⟨ho _ d,z,ne,k _ _ (.inl rfl) e,mA,⟨od,es,ep,k _ _ (.inr d) e2,c⟩,r⟩
  | own y=>obtain ⟨ob,e⟩:=x; exact ⟨ob,k _ _ (.inl rfl) e⟩
  | xd fs=>obtain ⟨mA,⟨od,es,ep,e,c⟩,r⟩:=x; exact ⟨mA,⟨od,es,ep,k _ _ (.inl rfl) e,c⟩,r⟩
  | rng lo hi=>obtain ⟨t,u,v,e⟩:=x; exact ⟨t,u,v,k _ _ (.inl rfl) e⟩
  | frz ob u ih=>obtain ⟨e,q⟩:=x; exact ⟨k _ _ (.inl rfl) e,ih q⟩
  | tbl ps =>
    have e:h.get? a=some { cls:=.none,data:=.fields ps }:=x
    show h'.get? a=some { cls:=.none,data:=.fields ps }
    exact k a _ (.inl rfl) e
  | met f y =>
    have e:h.get? a=some (PySem.W.methodObj (.ref f) (.ref y)):=x
    show h'.get? a=some (PySem.W.methodObj (.ref f) (.ref y))
    exact k a _ (.inl rfl) e
  | ext φ=>obtain ⟨p,⟨o,e⟩,st⟩:=x; exact ⟨st _ _ p fun o q=>k _ _ (.inl rfl) q,⟨o,k _ _ (.inl rfl) e⟩,st⟩
theorem HOk.lt (x:HOk P w H h) (e:H a=some o):a<h.objs.size:=(x a o e).lt
theorem HOk.fresh (x:HOk P w H h) (e:h.objs.size<=a):H a=none:=by
 cases q:H a with
 | none=>rfl
 | some u=>exact absurd (Nat.lt_of_lt_of_le (x.lt q) e) (Nat.lt_irrefl _)
theorem HOk.kept (x:HOk P w H h) (k:∀ b u,h.get? b=some u->h'.get? b=some u):HOk P w H h':=fun a o e =>
 (x a o e).stay (fun b u _ q=>k b u q) (fun _ q=>q) fun _ _ q=>q
theorem HOk.laid (x:HOk P w H h) (k:∀ b u,h.get? b=some u->h'.get? b=some u) (hp:h.objs.size<=a) (new:ObjOk P w (upd H a o) h' a o):HOk P w (upd H a o) h':=fun b u e=>by
 have hn:=x.fresh hp
 by_cases hb:b=a
 ·subst hb; rw [zac] at e; cases e; exact new
 ·rw [zai hb] at e
  exact (x b u e).stay (fun c v _ q=>k c v q) (fun c q=>by rw [zai (zao q hn)]; exact q) fun c xs q=>by rw [zai (zao q hn)]; exact q
end
def Rd (H:Hp) (a:Addr) (u:HO):Prop:=H a=some u\/∃ o,H a=some (.frz o u)
theorem Rd.ok {P:Program} {w:World} {H:Hp} {h:Heap} {a:Addr} {u:HO} (r:Rd H a u) (x:HOk P w H h):ObjOk P w H h a u:=by
 rcases r with r | ⟨o,r⟩
 ·exact x a u r
 ·obtain ⟨_,q⟩:=x a _ r
  exact q
def Mut:Option HO->Prop
 | some (.lst _)=>True
 | some (.dK _)=>True
 | some (.dT _)=>True
 | some (.set _ _)=>True
 | some (.ins _ _ _)=>True
 | some (.ext _)=>True
 | _=>False
section
variable {P:Program} {w:World} {H:Hp} {h h':Heap} {x e:Addr} {o':HO}
theorem HOk.write (ok:HOk P w H h) (mu:Mut (H x)) (he:e=x\/H e=some (.own x)) (k:∀ b u,b≠e->h.get? b=some u->h'.get? b=some u) (heo:∃ u,h'.get? e=some u)
    (new:ObjOk P w (upd H x o') h' x o'):HOk P w (upd H x o') h':=fun b u q=>by
  have nown:∀ c y,H c=some (.own y)->c≠x:=fun c y r z=>by subst z; rw [r] at mu; exact mu
  have ntup:∀ c xs,H c=some (.tup xs)->c≠x:=fun c xs r z=>by subst z; rw [r] at mu; exact mu
  by_cases hb:b=x
  · subst hb; rw [zac] at q; cases q; exact new
  · rw [zai hb] at q
    by_cases hbe:b=e
    · have q':H b=some (.own x):=by
        rcases he with z | z
        · exact absurd (hbe.trans z) hb
        · rw [hbe]; exact z
      rw [q] at q'; cases q'
      obtain ⟨v,hv⟩:=heo
      exact ⟨v,by rw [hbe]; exact hv⟩
    · refine (ok b u q).stay (fun c v hc r=>k c v ?_ r) (fun c r=>by rw [zai (nown c b r)]; exact r) fun c xs r=>by rw [zai (ntup c xs r)]; exact r
      rcases hc with rfl | hc
      · exact hbe
      · rintro rfl
        rcases he with z | z
        · exact nown c b hc z
        · rw [hc] at z; cases z; exact hb rfl
end
structure Un (fs ex:List Addr) (H H':Hp) (h h':Heap):Prop where
 keep:∀ b o,h.get? b=some o->H b=none->b ∉ fs->b ∉ ex->h'.get? b=some o
 slot:∀ b o,h.get? b=some o->H b=none->b∈fs->b ∉ ex->∃ sl,h'.get? b=some { o with slots:=sl }
 free:∀ b o,h.get? b=some o->H b=none->b ∉ ex->H' b=none
 there:∀ b o,h.get? b=some o->b ∉ ex->∃ o',h'.get? b=some o'
 tups:∀ b xs,H b=some (.tup xs)->H' b=some (.tup xs)
 frzs:∀ b o u,H b=some (.frz o u)->H' b=some (.frz o u)
 tbls:∀ b ps,H b=some (.tbl ps)->∃ more,H' b=some (.tbl (ps++more))
section
variable {fs fs' ex ex':List Addr} {H H1 H2:Hp} {h h1 h2 h':Heap} {a x e:Addr} {o:HO}
theorem Un.any (u:Un fs ex H H1 h h1) {b:Addr} {ob:Obj} (q:h.get? b=some ob) (n:H b=none) (hx:b ∉ ex):∃ sl,h1.get? b=some { ob with slots:=sl }:=by
 by_cases hb:b∈fs
 ·exact u.slot b ob q n hb hx
 ·exact ⟨ob.slots,u.keep b ob q n hb hx⟩
theorem Un.kept (k:∀ b u,h.get? b=some u->h'.get? b=some u):Un fs ex H H h h' :=
 ⟨fun b ob q _ _ _=>k b ob q,fun b ob q _ _ _=>⟨ob.slots,k b ob q⟩,fun _ _ _ n _=>n,fun b ob q _=>⟨ob,k b ob q⟩,fun _ _ q=>q,fun _ _ _ q=>q,fun _ ps q=>⟨#[],by rw [q]; simp⟩⟩
theorem Un.refl:Un fs ex H H h h:=Un.kept fun _ _ q=>q
theorem Un.laid (k:∀ b u,h.get? b=some u->h'.get? b=some u) (hp:h.objs.size<=a) (hn:H a=none):Un fs ex H (upd H a o) h h' where
 keep:=fun b u q _ _ _=>k b u q
 slot:=fun b u q _ _ _=>⟨u.slots,k b u q⟩
 free:=fun b u q n _=>by rw [zai (Nat.ne_of_lt (Nat.lt_of_lt_of_le (Heap.lt_size q) hp))]; exact n
 there:=fun b u q _=>⟨u,k b u q⟩
 tups:=fun b xs q=>by rw [zai (zao q hn)]; exact q
 frzs:=fun b u xs q=>by rw [zai (zao q hn)]; exact q
 tbls:=fun b ps q=>⟨#[],by rw [zai (zao q hn),q]; simp⟩
theorem Un.write (mu:Mut (H x)) (he:e=x\/H e=some (.own x)) (k:∀ b u,b≠e->h.get? b=some u->h'.get? b=some u) (heo:∃ u,h'.get? e=some u):Un fs ex H (upd H x o) h h':=by
 have hx:∀ b,H b=none->b≠x:=fun b n z=>by subst z; rw [n] at mu; exact mu
 have hb:∀ b,H b=none->b≠e:=fun b n z=>by
  subst z
  rcases he with r | r
  ·exact hx b n r
  ·rw [n] at r; cases r
 have hm:∀ b u,H b=some u->¬ Mut (some u)->b≠x:=fun b u q nm z=>by subst z; rw [q] at mu; exact nm mu
 refine ⟨fun b u q n _ _=>k b u (hb b n) q,fun b u q n _ _=>⟨u.slots,k b u (hb b n) q⟩,fun b u q n _=>by rw [zai (hx b n)]; exact n,fun b u q _=>?_,
  fun b xs q=>by rw [zai (hm b _ q fun z=>z)]; exact q,fun b u xs q=>by rw [zai (hm b _ q fun z=>z)]; exact q,fun b ps q=>⟨#[],by rw [zai (hm b _ q fun z=>z),q]; simp⟩⟩
 by_cases hbe:b=e
 ·subst hbe; exact heo
 ·exact ⟨u,k b u hbe q⟩
end
def trk (h:Heap) (H:Hp):List Addr:=(List.range h.objs.size).filter fun a=>(H a).isSome
def hidT (h:Heap) (H:Hp):Heap:=PySem.W.hideAll h (trk h H)
theorem zqq (h:Heap) (H:Hp):(hidT h H).objs.size=h.objs.size:=PySem.W.hideAll_size _ _
theorem zsv {h:Heap} {H:Hp} {b:Addr} {o:Obj} (e:h.get? b=some o) (n:H b=none):(hidT h H).get? b=some o :=
 PySem.W.hideAll_get _ e fun hm=>by
  have q:(H b).isSome=true:=(List.mem_filter.mp hm).2
  rw [n] at q; simp at q
theorem zuz {h:Heap} {H:Hp} {b:Addr} {o:Obj} (e:(hidT h H).get? b=some o):h.get? b=some o/\H b=none:=by
 have e':h.get? b=some o:=PySem.W.of_hideAll (trk h H) e
 refine ⟨e',?_⟩
 cases q:H b with
 | none=>rfl
 | some x =>
  have hm:b∈trk h H:=List.mem_filter.mpr ⟨List.mem_range.mpr (Heap.lt_size e'),by simp [q]⟩
  have z:(hidT h H).get? b=none:=PySem.W.hideAll_none (trk h H) hm
  rw [z] at e; cases e
def zva (g h:Heap) (L:Addr):List (Addr×Obj):=(List.range h.objs.size).filterMap fun a=>if a=L\/(g.get? a).isSome=true then none else (h.get? a).map fun o=>(a,o)
def rest (g h:Heap) (L d:Addr):List (Addr×Obj):=(zva g h L).filter fun p=>decide (p.1≠d)
end L2
namespace L2
open PySem PySem.Spec PyProof.Rows
structure Mod (K:PySem.W.Frag) (mg:Str->Option Value) (base:Heap):Prop where
 kin:K.In base
 glob:base.Ns mainGlobals mg
 blt:∃ mb,base.Ns builtinsNs mb/\∀ x:Str,x ≠ "__name__" -> mb x=bootBuiltins x
 nolimit:base.NoLimit
structure Cx where
 prog:Program
 w:World
 K:PySem.W.Frag
 mg:Str->Option Value
 base:Heap
 A:Around
 N:List Str
 s₀:Shared
 H₀:Hp
 env:Env
 outer:List Env
 stack:List Env
 ex:List Addr
 fn:Str->Bool
 calm:Bool
 pn:List (Addr×Obj)
 xe:Value->Shared->Prop
def frs (l:List Env):List Addr:=l.filterMap (·.frame)
abbrev Cx.fs (X:Cx):List Addr:=frs X.outer
def Vis (sc:Scope) (x:Str):Prop:=sc.names.lookup x=some .local\/sc.names.lookup x=some .cell\/sc.names.lookup x=some .free
def Loc (sc:Scope) (x:Str):Prop:=sc.names.lookup x=some .local\/sc.names.lookup x=some .cell
def Look (env:Env) (h:Heap) (m:Str->Option Value) (x:Str) (u:Value):Prop :=
 (env.kindOf x=some .local/\m x=some u)\/((env.kindOf x=some .cell\/env.kindOf x=some .free)/\∃ c,env.cells.lookup x=some c/\h.IsCell c (some u))
structure Cx.Ok (X:Cx):Prop where
 mod:Mod X.K X.mg X.base
 kind:X.env.scope.kind = .function
 glob:X.env.globals=mainGlobals
 blt:X.env.builtins=builtinsNs
 above:X.s₀.heap.objs.size<=X.env.locals
 inj:∀ x y c,X.env.cells.lookup x=some c->X.env.cells.lookup y=some c->x=y
 has:∀ x,(X.env.kindOf x=some .cell\/X.env.kindOf x=some .free)->∃ c,X.env.cells.lookup x=some c
 cab:∀ x c,X.fn x=true->X.env.cells.lookup x=some c->X.s₀.heap.objs.size<=c
 hd:X.calm=true->X.A.handled=none
 frames:X.A.frames=some X.stack
 stk:X.stack=X.outer\/(X.stack=X.env :: X.outer/\X.env.frame=some X.env.locals)
 exf:∀ b∈X.ex,b≠X.env.locals/\∀ x c,X.env.cells.lookup x=some c->c≠b
 bs:∀ b o,X.base.get? b=some o->X.s₀.heap.get? b=some o/\X.H₀ b=none
 bsz:X.base.objs.size<=X.s₀.heap.objs.size
 noex:∀ b o,X.base.get? b=some o->b ∉ X.ex
 exfs:∀ b∈X.ex,b ∉ X.fs
 funs:X.s₀.heap.FunFrames X.base X.outer
 frf:∀ b∈X.fs,X.H₀ b=none
structure Inv (X:Cx) (pins:List (Addr×Obj)) (σ:List (Option V)) (H:Hp) (s:Shared):Prop where
 ok:X.Ok
 os:s.os=X.s₀.os
 bare:AllBare s.gens
 base:Un X.fs X.ex X.H₀ H X.s₀.heap s.heap
 loc:∃ m,s.heap.Ns X.env.locals m/\∀ (i:Nat) (x:Str) (v:V),X.N[i]? = some x->σ[i]? = some (some v)->Vis X.env.scope x->∃ u,RelV v u/\Look X.env s.heap m x u
 cell:∀ x c,X.env.cells.lookup x=some c->∃ v,s.heap.IsCell c v
 free:H X.env.locals=none
 freeC:∀ x c,X.env.cells.lookup x=some c->H c=none
 pin:∀ p∈X.pn++pins,s.heap.get? p.1=some p.2/\H p.1=none/\p.1≠X.env.locals/\p.1 ∉ X.fs/\∀ v,p.2.data≠.cell v
 hok:HOk X.prog X.w H s.heap
 len:σ.length=X.N.length
section
variable {X:Cx} {pins:List (Addr×Obj)} {σ:List (Option V)} {H H':Hp} {s:Shared} {h':Heap}
theorem Cx.Ok.nofr (ok:X.Ok) {b:Addr} {o:Obj} (e:X.base.get? b=some o):b ∉ X.fs:=fun hb=>by
 have:=(ok.funs.mem hb).1
 rw [e] at this; cases this
theorem Inv.bs (I:Inv X pins σ H s):∀ b o,X.base.get? b=some o->s.heap.get? b=some o/\H b=none:=fun b o e =>
 ⟨I.base.keep b o (I.ok.bs b o e).1 (I.ok.bs b o e).2 (I.ok.nofr e) (I.ok.noex b o e),I.base.free b o (I.ok.bs b o e).1 (I.ok.bs b o e).2 (I.ok.noex b o e)⟩
theorem Inv.bk (I:Inv X pins σ H s):∀ b o,X.base.get? b=some o->s.heap.get? b=some o:=fun b o e=>(I.bs b o e).1
theorem Inv.mod (I:Inv X pins σ H s):Mod X.K X.mg X.base:=I.ok.mod
theorem Inv.kIn (I:Inv X pins σ H s):X.K.In s.heap:=I.ok.mod.kin.keeps I.bk
theorem Inv.lt (I:Inv X pins σ H s):X.env.locals<s.heap.objs.size:=let ⟨_,hn,_⟩:=I.loc; hn.lt
theorem Inv.sz (I:Inv X pins σ H s):X.s₀.heap.objs.size<=s.heap.objs.size:=Nat.le_trans I.ok.above (Nat.le_of_lt I.lt)
theorem Inv.nofs (I:Inv X pins σ H s) {a:Addr} (h:s.heap.objs.size<=a):a ∉ X.fs:=fun hb=>by
 obtain ⟨_,o,ho,_⟩:=I.ok.funs.mem hb
 exact absurd (Nat.lt_of_lt_of_le (Heap.lt_size ho) (Nat.le_trans I.sz h)) (Nat.lt_irrefl _)
theorem Inv.cne (I:Inv X pins σ H s):∀ x c,X.env.cells.lookup x=some c->c≠X.env.locals:=fun x c e z=>by
 obtain ⟨v,o,ho,hd⟩:=I.cell x c e
 obtain ⟨m,⟨o',es,ep,ho',hd',_⟩,_⟩:=I.loc
 rw [z,ho'] at ho; cases ho; rw [hd'] at hd; cases hd
theorem Inv.funs (I:Inv X pins σ H s):s.heap.FunFrames X.base X.outer:=by
 have all:∀ (l:List Env),(∀ b∈frs l,b∈X.fs)->X.s₀.heap.FunFrames X.base l->s.heap.FunFrames X.base l:=by
  intro l
  induction l with
  | nil=>intro _ _; trivial
  | cons env r ih =>
   intro hs hl
   obtain ⟨hk,⟨L,o,hf,hn,ho,hd⟩,hr⟩:=hl
   have hL:L∈X.fs:=hs L (by unfold frs; rw [List.filterMap_cons,hf]; exact List.mem_cons_self)
   obtain ⟨sl,e⟩:=I.base.slot L o ho (I.ok.frf L hL) hL fun z=>I.ok.exfs L z hL
   exact ⟨hk,⟨L,_,hf,hn,e,hd⟩,ih (fun b hb=>hs b (by unfold frs; rw [List.filterMap_cons,hf]; exact List.mem_cons_of_mem _ hb)) hr⟩
 exact all X.outer (fun _ hb=>hb) I.ok.funs
theorem Inv.stack (I:Inv X pins σ H s):s.heap.FunFrames X.base X.stack:=by
 rcases I.ok.stk with e | ⟨e,hf⟩
 ·rw [e]; exact I.funs
 ·rw [e]
  obtain ⟨m,hn,_⟩:=I.loc
  refine .cons (by rw [I.ok.kind]; decide) hf hn ?_ I.funs
  exact Heap.get?_none_of_le (Nat.le_trans I.ok.bsz I.ok.above)
theorem Inv.stkSub (I:Inv X pins σ H s):∀ b∈frs X.stack,b∈X.env.locals :: X.fs:=fun b hb=>by
 rcases I.ok.stk with e | ⟨e,hf⟩
 ·rw [e] at hb; exact List.mem_cons_of_mem _ hb
 ·rw [e] at hb
  unfold frs at hb
  rw [List.filterMap_cons,hf] at hb
  exact hb
theorem Inv.stkFree (I:Inv X pins σ H s):∀ b∈frs X.stack,H b=none:=fun b hb=>by
 rcases List.mem_cons.mp (I.stkSub b hb) with e | hb
 ·rw [e]; exact I.free
 ·obtain ⟨_,o,ho,_⟩:=I.ok.funs.mem hb
  exact I.base.free b o ho (I.ok.frf b hb) fun z=>I.ok.exfs b z hb
theorem Inv.step {g':Array GenState} {t':Nat} {d':Drawn} {ch:List Addr} (I:Inv X pins σ H s)
    (hch:∀ b∈ch,(b∈X.ex\/X.s₀.heap.objs.size<=b)/\b≠X.env.locals/\(∀ x c,X.env.cells.lookup x=some c->c≠b)/\∀ p∈X.pn++pins,p.1≠b)
    (keep:∀ b o,b≠X.env.locals->b ∉ X.fs->b ∉ ch->s.heap.get? b=some o->H b=none->h'.get? b=some o)
    (slot:∀ b o,b≠X.env.locals->b∈X.fs->b ∉ ch->s.heap.get? b=some o->H b=none->∃ sl,h'.get? b=some { o with slots:=sl }) (free:∀ b o,b ∉ ch->s.heap.get? b=some o->H b=none->H' b=none)
    (there:∀ b o,b ∉ ch->s.heap.get? b=some o->∃ o',h'.get? b=some o')
    (tups:∀ b xs,H b=some (.tup xs)->H' b=some (.tup xs)) (frzs:∀ b o u,H b=some (.frz o u)->H' b=some (.frz o u)) (tbls:∀ b ps,H b=some (.tbl ps)->∃ more,H' b=some (.tbl (ps++more)))
    (ns:∀ m,s.heap.Ns X.env.locals m->h'.Ns X.env.locals m) (hok:HOk X.prog X.w H' h') (hg:AllBare g') :
    Inv X pins σ H' { s with heap:=h',gens:=g',drawn:=d',toks:=t' }:=by
  have neL:∀ b o,X.s₀.heap.get? b=some o->b≠X.env.locals:=fun b o e=>Nat.ne_of_lt (Nat.lt_of_lt_of_le (Heap.lt_size e) I.ok.above)
  have neC:∀ b o,X.s₀.heap.get? b=some o->b ∉ X.ex->b ∉ ch:=fun b o e hx hb=>by
    rcases (hch b hb).1 with z | z
    · exact hx z
    · exact absurd (Nat.lt_of_lt_of_le (Heap.lt_size e) z) (Nat.lt_irrefl _)
  have cellK:∀ x c,X.env.cells.lookup x=some c->∀ v,s.heap.IsCell c v->h'.IsCell c v:=fun x c e v ⟨o,ho,hd⟩=>by
    have nch:c ∉ ch:=fun z=>(hch c z).2.2.1 x c e rfl
    by_cases hc:c∈X.fs
    · obtain ⟨sl,q⟩:=slot c o (I.cne x c e) hc nch ho (I.freeC x c e)
      exact ⟨_,q,hd⟩
    · exact ⟨o,keep c o (I.cne x c e) hc nch ho (I.freeC x c e),hd⟩
  refine ⟨I.ok,I.os,hg,⟨fun b o e n hb hx=>?_,fun b o e n hb hx=>?_,fun b o e n hx=>?_,fun b o e hx=>?_,fun b xs e=>tups b xs (I.base.tups b xs e),fun b o xs e=>frzs b o xs (I.base.frzs b o xs e),fun b ps e=>?_⟩,?_,fun x c e=>?_,?_,fun x c e=>?_,fun p hp=>?_,hok,I.len⟩
  · exact keep b o (neL b o e) hb (neC b o e hx) (I.base.keep b o e n hb hx) (I.base.free b o e n hx)
  · obtain ⟨sl,e1⟩:=I.base.slot b o e n hb hx
    obtain ⟨sl',e2⟩:=slot b _ (neL b o e) hb (neC b o e hx) e1 (I.base.free b o e n hx)
    exact ⟨sl',e2⟩
  · obtain ⟨o',e1⟩:=I.base.there b o e hx
    exact free b o' (neC b o e hx) e1 (I.base.free b o e n hx)
  · obtain ⟨o',e1⟩:=I.base.there b o e hx
    exact there b o' (neC b o e hx) e1
  · obtain ⟨m1,e1⟩:=I.base.tbls b ps e
    obtain ⟨m2,e2⟩:=tbls b _ e1
    exact ⟨m1++m2,by rw [e2,Array.append_assoc]⟩
  · obtain ⟨m,hn,hl⟩:=I.loc
    refine ⟨m,ns m hn,fun i x v e1 e2 e3=>?_⟩
    obtain ⟨u,r,l⟩:=hl i x v e1 e2 e3
    refine ⟨u,r,?_⟩
    rcases l with l | ⟨k,c,e,z⟩
    · exact .inl l
    · exact .inr ⟨k,c,e,cellK x c e _ z⟩
  · obtain ⟨v,z⟩:=I.cell x c e
    exact ⟨v,cellK x c e v z⟩
  · obtain ⟨m,⟨o,_,_,ho,_⟩,_⟩:=I.loc
    exact free _ o (fun z=>(hch _ z).2.1 rfl) ho I.free
  · obtain ⟨v,o,ho,hd⟩:=I.cell x c e
    exact free c o (fun z=>(hch c z).2.2.1 x c e rfl) ho (I.freeC x c e)
  · obtain ⟨e,n,ne,nf,d⟩:=I.pin p hp
    have nch:p.1 ∉ ch:=fun z=>(hch p.1 z).2.2.2 p hp rfl
    exact ⟨keep p.1 p.2 ne nf nch e n,free p.1 p.2 nch e n,ne,nf,d⟩
theorem Inv.un {t':Nat} (I:Inv X pins σ H s) (u:Un X.fs [] H H' s.heap h') (hok:HOk X.prog X.w H' h'):Inv X pins σ H' { s with heap:=h',toks:=t' }:=by
 obtain ⟨m,⟨o,es,ep,ho,r⟩,_⟩:=id I.loc
 obtain ⟨sl,hL⟩:=u.any ho I.free (by simp)
 exact I.step (g':=s.gens) (d':=s.drawn) (ch:=[]) (fun _ z=>nomatch z) (fun b o _ hb _ e n=>u.keep b o e n hb (by simp)) (fun b o _ hb _ e n=>u.slot b o e n hb (by simp)) (fun b o _ e n=>u.free b o e n (by simp)) (fun b o _ e=>u.there b o e (by simp)) u.tups u.frzs u.tbls (fun m' hm=>by
  obtain ⟨o',es',ep',ho',r'⟩:=hm
  rw [ho] at ho'; cases ho'
  exact ⟨_,es',ep',hL,r'⟩) hok I.bare
theorem Inv.call {g':Array GenState} {t':Nat} {d':Drawn} {ch:List Addr} (I:Inv X pins σ H s) (u:Un (frs X.stack) ch H H' s.heap h') (hok:HOk X.prog X.w H' h') (hg:AllBare g')
    (hch:∀ b∈ch,(b∈X.ex\/X.s₀.heap.objs.size<=b)/\b≠X.env.locals/\(∀ x c,X.env.cells.lookup x=some c->c≠b)/\∀ p∈X.pn++pins,p.1≠b) :
    Inv X pins σ H' { s with heap:=h',gens:=g',drawn:=d',toks:=t' }:=by
  obtain ⟨m,⟨o,es,ep,ho,r⟩,_⟩:=id I.loc
  obtain ⟨sl,hL⟩:=u.any ho I.free fun z=>(hch _ z).2.1 rfl
  exact I.step (ch:=ch) hch (fun b o hL hb hc e n=>u.keep b o e n (fun z=>(List.mem_cons.mp (I.stkSub b z)).elim hL hb) hc) (fun b o _ _ hc e n=>u.any e n hc) (fun b o hc e n=>u.free b o e n hc) (fun b o hc e=>u.there b o e hc) u.tups u.frzs u.tbls (fun m' hm=>by
    obtain ⟨o',es',ep',ho',r'⟩:=hm
    rw [ho] at ho'; cases ho'
    exact ⟨_,es',ep',hL,r'⟩) hok hg
theorem Inv.turned {t':Nat} {it:Addr} (I:Inv X pins σ H s) (k:∀ b o,b≠it->s.heap.get? b=some o->h'.get? b=some o) (hn:H it=none) (hL:it≠X.env.locals)
    (h1:it∈X.ex\/X.s₀.heap.objs.size<=it) (h2:∀ x c,X.env.cells.lookup x=some c->c≠it) (h3:∀ p∈X.pn++pins,p.1≠it):Inv X pins σ H { s with heap:=h',toks:=t' }:=by
  have nit:∀ b u,H b=some u->b≠it:=fun b u e z=>by rw [z,hn] at e; cases e
  refine I.step (g':=s.gens) (d':=s.drawn) (ch:=[it]) (fun b hb=>?_) (fun b o _ _ hc e _=>k b o (fun z=>hc (by simp [z])) e) (fun b o _ _ hc e _=>⟨o.slots,k b o (fun z=>hc (by simp [z])) e⟩) (fun _ _ _ _ n=>n)
    (fun b o hc e=>⟨o,k b o (fun z=>hc (by simp [z])) e⟩) (fun _ _ e=>e) (fun _ _ _ e=>e) (fun b ps e=>⟨#[],by rw [e]; simp⟩) (fun m hm=>?_) (fun b u e=>?_) I.bare
  · have e:b=it:=by simpa using hb
    subst e
    exact ⟨h1,hL,h2,h3⟩
  · obtain ⟨o,es,ep,ho,r⟩:=hm
    exact ⟨o,es,ep,k _ o (Ne.symm hL) ho,r⟩
  · refine (I.hok b u e).stay (fun c v hc q=>k c v ?_ q) (fun _ q=>q) fun _ _ q=>q
    rcases hc with z | z
    · rw [z]; exact nit b u e
    · exact nit c _ z
theorem Inv.tok (I:Inv X pins σ H s) (t:Nat):Inv X pins σ H { s with toks:=t }:=I.un (h':=s.heap) (t':=t) Un.refl I.hok
theorem Inv.kept {t':Nat} (I:Inv X pins σ H s) (k:∀ b u,s.heap.get? b=some u->h'.get? b=some u):Inv X pins σ H { s with heap:=h',toks:=t' }:=I.un (Un.kept k) (I.hok.kept k)
theorem Inv.laid {a:Addr} {o:HO} {t':Nat} (I:Inv X pins σ H s) (k:∀ b u,s.heap.get? b=some u->h'.get? b=some u) (hp:s.heap.objs.size<=a) (new:ObjOk X.prog X.w (upd H a o) h' a o) :
    Inv X pins σ (upd H a o) { s with heap:=h',toks:=t' }:=I.un (Un.laid k hp (I.hok.fresh hp)) (I.hok.laid k hp new)
theorem Inv.write {x e:Addr} {o:HO} {t':Nat} (I:Inv X pins σ H s) (mu:Mut (H x)) (he:e=x\/H e=some (.own x)) (k:∀ b u,b≠e->s.heap.get? b=some u->h'.get? b=some u) (heo:∃ u,h'.get? e=some u)
    (new:ObjOk X.prog X.w (upd H x o) h' x o):Inv X pins σ (upd H x o) { s with heap:=h',toks:=t' }:=I.un (Un.write mu he k heo) (I.hok.write mu he k heo new)
theorem Inv.pins_of {pins':List (Addr×Obj)} (I:Inv X pins σ H s) (h:∀ p∈pins',s.heap.get? p.1=some p.2/\H p.1=none/\p.1≠X.env.locals/\p.1 ∉ X.fs/\∀ v,p.2.data≠.cell v):Inv X pins' σ H s :=
 ⟨I.ok,I.os,I.bare,I.base,I.loc,I.cell,I.free,I.freeC,fun p hp=>(List.mem_append.mp hp).elim (fun z=>I.pin p (List.mem_append_left _ z)) (h p),I.hok,I.len⟩
theorem zkj {N:List Str} (hN:N.Nodup) {i j:Nat} {x:Str} (a:N[i]? = some x) (b:N[j]? = some x):i=j:=by
 obtain ⟨h1,e1⟩:=List.getElem?_eq_some_iff.mp a
 obtain ⟨h2,e2⟩:=List.getElem?_eq_some_iff.mp b
 exact (List.getElem_inj hN).mp (e1.trans e2.symm)
theorem zlp {M:Model} {A:Around} {E:Value->Shared->Prop} {i:Nat} {x:Str} {v:V} {u:Value} {Q:Unit->Shared->Prop} (I:Inv X pins σ H s) (hN:X.N.Nodup) (hi:X.N[i]? = some x) (hx:Loc X.env.scope x) (r:RelV v u)
    (h:∀ s',Inv X pins (σ.set i (some v)) H s'->(∃ a,Heap.SameBut a s.heap s'.heap/\(a=X.env.locals\/X.env.cells.lookup x=some a))->Q () s') (hf:X.fn x=true\/X.env.scope.names.lookup x=some .local:=by first | exact .inl rfl | exact .inr rfl | assumption):wpAny M A (storeName X.env x u) Q E s:=by
  obtain ⟨m,hn,hl⟩:=id I.loc
  have hcls:(X.env.scope.kind == .class || (X.env.scope.kind == .module && X.env.locals != X.env.globals))=false:=by rw [I.ok.kind]; rfl
  have hiσ:i < σ.length:=by rw [I.len]; exact (List.getElem?_eq_some_iff.mp hi).1
  have cne:=I.cne
  have tracked:∀ {a:Addr} {h':Heap},(∃ o,s.heap.get? a=some o/\H a=none)->Heap.SameBut a s.heap h'->HOk X.prog X.w H h':=fun {a h'} ha hs b ob e=>by
    obtain ⟨_,_,hfree⟩:=ha
    refine (I.hok b ob e).stay (fun c w' hc q=>(hs.2 c ?_).trans q) (fun _ q=>q) fun _ _ q=>q
    rintro rfl
    rcases hc with rfl | hc
    · rw [hfree] at e; cases e
    · rw [hfree] at hc; cases hc
  rcases hx with hk | hk
  · refine wpAny_storeName_local hk hn (fun h' hn' hs=>?_) hcls
    obtain ⟨oL,_,_,hoL,_⟩:=id hn
    refine h _ ⟨I.ok,I.os,I.bare,⟨fun b o e n hb hx=>?_,fun b o e n hb hx=>?_,I.base.free,fun b o e hx=>?_,I.base.tups,I.base.frzs,I.base.tbls⟩,⟨_,hn',fun j y v' e1 e2 e3=>?_⟩,fun y c e=>?_,I.free,I.freeC,fun p hp=>?_,tracked ⟨oL,hoL,I.free⟩ hs,by simpa using I.len⟩ ⟨_,hs,.inl rfl⟩
    · exact (hs.2 b (Nat.ne_of_lt (Nat.lt_of_lt_of_le (Heap.lt_size e) I.ok.above))).trans (I.base.keep b o e n hb hx)
    · obtain ⟨sl,e1⟩:=I.base.slot b o e n hb hx
      exact ⟨sl,(hs.2 b (Nat.ne_of_lt (Nat.lt_of_lt_of_le (Heap.lt_size e) I.ok.above))).trans e1⟩
    · obtain ⟨o',e1⟩:=I.base.there b o e hx
      exact ⟨o',(hs.2 b (Nat.ne_of_lt (Nat.lt_of_lt_of_le (Heap.lt_size e) I.ok.above))).trans e1⟩
    · by_cases hj:j=i
      · subst hj
        rw [hi] at e1; cases e1
        rw [List.getElem?_set_self hiσ] at e2
        cases e2
        exact ⟨u,r,.inl ⟨hk,by simp⟩⟩
      · rw [List.getElem?_set_ne (Ne.symm hj)] at e2
        obtain ⟨u',r',q⟩:=hl j y v' e1 e2 e3
        refine ⟨u',r',?_⟩
        rcases q with ⟨k,e⟩ | ⟨k,c,e,z⟩
        · refine .inl ⟨k,?_⟩
          have:y≠x:=fun e=>hj (zkj hN e1 (e ▸ hi))
          simp [this,e]
        · exact .inr ⟨k,c,e,z.sameBut hs (cne y c e)⟩
    · obtain ⟨w',z⟩:=I.cell y c e
      exact ⟨w',z.sameBut hs (cne y c e)⟩
    · obtain ⟨e,n,ne,nf,d⟩:=I.pin p hp
      exact ⟨(hs.2 p.1 ne).trans e,n,ne,nf,d⟩
  · have hfn:X.fn x=true:=by
      rcases hf with z | z
      · exact z
      · rw [z] at hk; cases hk
    obtain ⟨c,hc⟩:=I.ok.has x (.inl hk)
    obtain ⟨w',z⟩:=I.cell x c hc
    refine wpAny_storeName_cell I.ok.kind hk hc z (fun h' hc' hs=>?_)
    obtain ⟨oc,hoc,hocd⟩:=id z
    refine h { s with heap:=h' } ⟨I.ok,I.os,I.bare,⟨fun b o e n hb hx=>?_,fun b o e n hb hx=>?_,I.base.free,fun b o e hx=>?_,I.base.tups,I.base.frzs,I.base.tbls⟩,⟨m,hn.sameBut hs (Ne.symm (cne x c hc)),fun j y v' e1 e2 e3=>?_⟩,fun y c' e=>?_,I.free,I.freeC,fun p hp=>?_,tracked ⟨oc,hoc,I.freeC x c hc⟩ hs,by simpa using I.len⟩ ⟨c,hs,.inr hc⟩
    · exact (hs.2 b (Nat.ne_of_lt (Nat.lt_of_lt_of_le (Heap.lt_size e) (I.ok.cab x c hfn hc)))).trans (I.base.keep b o e n hb hx)
    · obtain ⟨sl,e1⟩:=I.base.slot b o e n hb hx
      exact ⟨sl,(hs.2 b (Nat.ne_of_lt (Nat.lt_of_lt_of_le (Heap.lt_size e) (I.ok.cab x c hfn hc)))).trans e1⟩
    · obtain ⟨o',e1⟩:=I.base.there b o e hx
      exact ⟨o',(hs.2 b (Nat.ne_of_lt (Nat.lt_of_lt_of_le (Heap.lt_size e) (I.ok.cab x c hfn hc)))).trans e1⟩
    · by_cases hj:j=i
      · subst hj
        rw [hi] at e1; cases e1
        rw [List.getElem?_set_self hiσ] at e2
        cases e2
        exact ⟨u,r,.inr ⟨.inl hk,c,hc,hc'⟩⟩
      · rw [List.getElem?_set_ne (Ne.symm hj)] at e2
        obtain ⟨u',r',q⟩:=hl j y v' e1 e2 e3
        refine ⟨u',r',?_⟩
        rcases q with q | ⟨k,c',e,z'⟩
        · exact .inl q
        · refine .inr ⟨k,c',e,z'.sameBut hs ?_⟩
          rintro rfl
          exact hj (zkj hN e1 (I.ok.inj _ _ _ e hc ▸ hi))
    · by_cases hcc:c'=c
      · subst hcc; exact ⟨_,hc'⟩
      · obtain ⟨w2,z2⟩:=I.cell y c' e
        exact ⟨w2,z2.sameBut hs hcc⟩
    · obtain ⟨e,n,ne,nf,d⟩:=I.pin p hp
      refine ⟨(hs.2 p.1 ?_).trans e,n,ne,nf,d⟩
      intro q
      rw [q,hoc] at e
      have q':oc=p.2:=Option.some.inj e
      exact d w' (by rw [<- q']; exact hocd)
theorem zga {M:Model} {A:Around} {E:Value->Shared->Prop} {i:Nat} {x:Str} {v:V} {u:Value} {Q:Unit->Shared->Prop} (I:Inv X pins σ H s) (hN:X.N.Nodup) (hi:X.N[i]? = some x) (hx:Loc X.env.scope x) (r:RelV v u)
    (h:∀ s',Inv X pins (σ.set i (some v)) H s'->Q () s') (hf:X.fn x=true\/X.env.scope.names.lookup x=some .local:=by first | exact .inl rfl | exact .inr rfl | assumption):wpAny M A (storeName X.env x u) Q E s :=
  zlp I hN hi hx r (fun s' I' _=>h s' I') hf
theorem Inv.call' {s':Shared} {ch:List Addr} (I:Inv X pins σ H s) (ho:s'.os=s.os) (u:Un (frs X.stack) ch H H' s.heap s'.heap) (hok:HOk X.prog X.w H' s'.heap) (hg:AllBare s'.gens)
    (hch:∀ b∈ch,(b∈X.ex\/X.s₀.heap.objs.size<=b)/\b≠X.env.locals/\(∀ x c,X.env.cells.lookup x=some c->c≠b)/\∀ p∈X.pn++pins,p.1≠b):Inv X pins σ H' s':=by
  obtain ⟨h',g',d',t',o'⟩:=s'
  have e:o'=s.os:=ho
  subst e
  exact I.call (g':=g') (t':=t') (d':=d') u hok hg hch
end
abbrev XK:=Value->Option Addr->Hp->Prop
abbrev St:=List (Option V)
abbrev VK:=V->Hp->Prop
abbrev TE:=St->Hp->VK->Prop
abbrev TT:=St->Hp->(Bool->Hp->Prop)->Prop
abbrev TA:=St->Hp->(List V->Hp->Prop)->Prop
structure Ends where
 nx:St->Hp->Prop
 rt:VK
 bk:St->Hp->Prop:=fun _ _=>False
 ct:St->Hp->Prop:=fun _ _=>False
abbrev TS:=Ends->St->Hp->Prop
def EP (X:Cx) (pins:List (Addr×Obj)) (σ:St) (Q:VK) (u:Value) (s':Shared):Prop:=∃ v H',Inv X pins σ H' s'/\RelV v u/\Q v H'
def TP (X:Cx) (pins:List (Addr×Obj)) (σ:St) (Q:Bool->Hp->Prop) (b:Bool) (s':Shared):Prop:=∃ H',Inv X pins σ H' s'/\Q b H'
def AP (X:Cx) (pins:List (Addr×Obj)) (σ:St) (Q:List V->Hp->Prop) (us:List Value) (s':Shared):Prop:=∃ vs H',Inv X pins σ H' s'/\Vals vs us/\Q vs H'
def SP (X:Cx) (pins:List (Addr×Obj)) (D:Ends) (f:Flow) (s':Shared):Prop :=
 match f with
 | .next=>∃ σ' H',Inv X pins σ' H' s'/\D.nx σ' H'
 | .brk=>∃ σ' H',Inv X pins σ' H' s'/\D.bk σ' H'
 | .cont=>∃ σ' H',Inv X pins σ' H' s'/\D.ct σ' H'
 | .ret u=>∃ v σ' H',Inv X pins σ' H' s'/\RelV v u/\D.rt v H'
def PE (X:Cx) (e:Expr) (t:TE):Prop :=
 ∀ (pins:List (Addr×Obj)) (s:Shared) (σ:St) (H:Hp) (Q:VK),Inv X pins σ H s->t σ H Q->wpAny (model X.prog X.w) X.A (eval e X.env) (EP X pins σ Q) X.xe s
def PT (X:Cx) (e:Expr) (t:TT):Prop :=
 ∀ (pins:List (Addr×Obj)) (s:Shared) (σ:St) (H:Hp) (Q:Bool->Hp->Prop),Inv X pins σ H s->t σ H Q->wpAny (model X.prog X.w) X.A (isTrue e X.env (eval e X.env)) (TP X pins σ Q) X.xe s
def PW (X:Cx) (e:Expr) (t:TT):Prop :=
 ∀ (whole:Sem Value) (pins:List (Addr×Obj)) (s:Shared) (σ:St) (H:Hp) (Q:Bool->Hp->Prop),Inv X pins σ H s->t σ H Q->wpAny (model X.prog X.w) X.A (isTrue e X.env whole) (TP X pins σ Q) X.xe s
theorem PW.pt {X:Cx} {e:Expr} {t:TT} (h:PW X e t):PT X e t:=h _
def PA (X:Cx) (es:List Expr) (t:TA):Prop :=
 ∀ (pos:Pos) (pins:List (Addr×Obj)) (s:Shared) (σ:St) (H:Hp) (Q:List V->Hp->Prop),Inv X pins σ H s->t σ H Q->wpAny (model X.prog X.w) X.A (spliced (backTo pos (starEach es X.env))) (AP X pins σ Q) X.xe s
def PS (X:Cx) (st:Stmt) (t:TS):Prop :=
 ∀ (pins:List (Addr×Obj)) (s:Shared) (σ:St) (H:Hp) (D:Ends),Inv X pins σ H s->t D σ H->wpAny (model X.prog X.w) X.A (exec st X.env) (SP X pins D) X.xe s
def PSs (X:Cx) (st:List Stmt) (t:TS):Prop :=
 ∀ (pins:List (Addr×Obj)) (s:Shared) (σ:St) (H:Hp) (D:Ends),Inv X pins σ H s->t D σ H->wpAny (model X.prog X.w) X.A (execs st X.env) (SP X pins D) X.xe s
theorem thn {α:Type} {t:Sem α} {Q Q':α->Shared->Prop} {M:Model} {A:Around} {E:Value->Shared->Prop} {s:Shared} (h:wpAny M A t Q E s) (hQ:∀ a s,Q a s->Q' a s):wpAny M A t Q' E s:=wpAny_mono h hQ fun _ _ x=>x
end L2
namespace L2
open PySem PySem.Spec PyProof.Rows
section
variable {X:Cx}
def tVar (i:Nat):TE:=fun σ H Q=>∃ v,σ[i]? = some (some v)/\Q v H
def tC (v:V):TE:=fun _ H Q=>Q v H
theorem zxa {i:Nat} {x:Str} {pos:Pos} (hN:X.N[i]? = some x) (hv:Vis X.env.scope x) (hd:(x == ("__debug__" : Str))=false:=by decide) (hcd:(x == ("__classdict__" : Str))=false:=by decide):PE X (.Name x pos) (tVar i):=by
 intro pins s σ H Q I h
 obtain ⟨v,e,h⟩:=h
 obtain ⟨m,hn,hl⟩:=I.loc
 obtain ⟨u,r,l⟩:=hl i x v hN e hv
 have fin:EP X pins σ Q u s:=⟨v,H,I,r,h⟩
 rcases l with ⟨hk,hm⟩ | ⟨hk,c,hc,hcell⟩
 ·exact wpAny_Name (wpAny_loadName_local I.ok.kind hk hn hm fin) hd
 ·rcases hk with hk | hk
  ·exact wpAny_Name (wpAny_loadName_cell I.ok.kind hk hc hcell fin) hd
  ·exact wpAny_Name (wpAny_loadName_free I.ok.kind hk hc hcell fin hcd) hd
theorem zah {i j pos}:PE X (.Constant (.int i) j pos) (tC (.int i)):=fun _ _ _ H _ I h=>wpAny_Constant_int ⟨.int i,H,I.tok _,⟨_,rfl⟩,h⟩
theorem pe_bl {b j pos}:PE X (.Constant (.bool b) j pos) (tC (.bl b)):=fun _ _ _ H _ I h=>Constant_bool ⟨.bl b,H,I,rfl,h⟩
theorem zew {j pos}:PE X (.Constant .none j pos) (tC .non):=fun _ _ _ H _ I h=>Constant_none ⟨.non,H,I,rfl,h⟩
theorem zaq {x j pos}:PE X (.Constant (.str x) j pos) (tC (.str x)):=fun _ _ _ H _ I h=>Calls.Constant_str ⟨.str x,H,I.tok _,⟨_,rfl⟩,h⟩
def Gl (X:Cx) (x:Str):Prop:=X.env.kindOf x=some .globalImplicit
theorem zfm {E:Value->Shared->Prop} {pins:List (Addr×Obj)} {s:Shared} {σ:St} {H:Hp} {x:Str} {u:Value} {pos:Pos} {Q:Value->Shared->Prop} (I:Inv X pins σ H s) (hg:Gl X x) (hm:X.mg x=some u) (h:Q u s)
    (hd:(x == ("__debug__" : Str))=false:=by decide):wpAny (model X.prog X.w) X.A (eval (.Name x pos) X.env) Q E s :=
  Calls.Name_function_global I.ok.kind hg (Calls.loadGlobal_global (by rw [I.ok.glob]; exact I.mod.glob.keeps I.bk) hm h) hd
theorem zlq {E:Value->Shared->Prop} {pins:List (Addr×Obj)} {s:Shared} {σ:St} {H:Hp} {x:Str} {u:Value} {pos:Pos} {Q:Value->Shared->Prop} (I:Inv X pins σ H s) (hg:Gl X x) (hm:X.mg x=none) (hv:bootBuiltins x=some u) (h:Q u s)
    (hn:x ≠ "__name__" := by decide) (hd:(x == ("__debug__" : Str))=false:=by decide):wpAny (model X.prog X.w) X.A (eval (.Name x pos) X.env) Q E s:=by
  obtain ⟨mb,h1,h2⟩:=I.mod.blt
  exact Calls.Name_function_global I.ok.kind hg (Calls.loadGlobal_builtin (by rw [I.ok.glob]; exact I.mod.glob.keeps I.bk) hm (by rw [I.ok.blt]; exact h1.keeps I.bk) ((h2 x hn).trans hv) h) hd
theorem zfi {x:Str} {v:V} {u:Value} {pos:Pos} (hg:Gl X x) (hm:X.mg x=some u) (r:RelV v u) (hd:(x == ("__debug__" : Str))=false:=by decide):PE X (.Name x pos) (tC v) :=
 fun _ _ _ H _ I h=>zfm I hg hm ⟨v,H,I,r,h⟩ hd
variable {a b:Expr} {ta tb:TE} {pos:Pos}
def PC (X:Cx) (op:CmpOp) (a b:Expr) (t:TE):Prop :=
 ∀ (pins:List (Addr×Obj)) (s:Shared) (σ:St) (H:Hp) (Q:VK),Inv X pins σ H s->t σ H Q ->
  wpAny (model X.prog X.w) X.A (eval a X.env) (fun v s₁=>wpAny (model X.prog X.w) X.A (eval b X.env) (fun u s₂=>wpAny (model X.prog X.w) X.A (compareOp op v u) (EP X pins σ Q) X.xe s₂) X.xe s₁) X.xe s
def tB (t:TE):TT:=fun σ H Q=>t σ H fun x H1=>∃ c,x = .bl c/\Q c H1
theorem zuc {op:CmpOp} {t:TE} (h:PC X op a b t) (h1:behindInMarks op b=false:=by first | exact nobehind _ (by decide) (by decide) | rfl):PE X (.Compare a [op] [b] pos) t:=fun pins s σ H Q I hw=>wpAny_Compare1 (h pins s σ H Q I hw) h1
theorem zjz {op:CmpOp} {t:TE} (h:PC X op a b t) (h1:behindInMarks op b=false:=by first | exact nobehind _ (by decide) (by decide) | rfl):PT X (.Compare a [op] [b] pos) (tB t):=by
 intro pins s σ H Q I hw
 refine wpAny_isTrue_Compare1 (thn (h pins s σ H _ I hw) fun v s1 h1=>thn h1 fun u s2 h2=>thn h2 fun c s3 ⟨x,H1,I1,r1,q1⟩=>?_) h1
 obtain ⟨d,rfl,q⟩:=q1
 cases r1
 exact wpAny_truthy_bool ⟨H1,I1,q⟩
theorem zhy {e:Expr} {t:TE} (h:PE X e t) (he:∀ whole,isTrue e X.env whole=(do let v <- whole; standAt e.pos; holding [v] (truthy v)):=by intro _; rfl):PT X e (tB t):=by
 intro pins s σ H Q I hw
 refine isTrue_plain (thn (h pins s σ H _ I hw) fun v s1 ⟨x,H1,I1,r1,q1⟩=>?_) (he _)
 obtain ⟨d,rfl,q⟩:=q1
 cases r1
 exact wpAny_truthy_bool ⟨H1,I1,q⟩
variable {tA tB':TT} {rest:List Expr}
def tAnd (t u:TT):TT:=fun σ H Q=>t σ H fun c H1=>if c=true then u σ H1 Q else Q false H1
def tOr (t u:TT):TT:=fun σ H Q=>t σ H fun c H1=>if c=true then Q true H1 else u σ H1 Q
def tNot (t:TT):TT:=fun σ H Q=>t σ H fun c H1=>Q (!c) H1
theorem zik (ha:PT X a tA):PW X (.BoolOp .And [a] pos) tA:=by
 intro wh pins s σ H Q I h
 refine isTrue_and (thn (ha pins s σ H Q I h) fun c s1 e=>?_)
 cases c with
 | true=>exact isTrue_and_nil e
 | false=>exact e
theorem zqr (ha:PT X a tA):PW X (.BoolOp .Or [a] pos) tA:=by
 intro wh pins s σ H Q I h
 refine isTrue_or (thn (ha pins s σ H Q I h) fun c s1 e=>?_)
 cases c with
 | false=>exact isTrue_or_nil e
 | true=>exact e
theorem zil (ha:PT X a tA) (hb:PW X (.BoolOp .And (b :: rest) pos) tB'):PW X (.BoolOp .And (a :: b :: rest) pos) (tAnd tA tB'):=by
 intro wh pins s σ H Q I h
 refine isTrue_and (thn (ha pins s σ H _ I h) fun c s1 ⟨H1,I1,q1⟩=>?_)
 cases c with
 | true=>exact hb wh pins s1 σ H1 Q I1 q1
 | false=>exact ⟨H1,I1,q1⟩
theorem pw_or (ha:PT X a tA) (hb:PW X (.BoolOp .Or (b :: rest) pos) tB'):PW X (.BoolOp .Or (a :: b :: rest) pos) (tOr tA tB'):=by
 intro wh pins s σ H Q I h
 refine isTrue_or (thn (ha pins s σ H _ I h) fun c s1 ⟨H1,I1,q1⟩=>?_)
 cases c with
 | true=>exact ⟨H1,I1,q1⟩
 | false=>exact hb wh pins s1 σ H1 Q I1 q1
theorem zim (ha:PT X a tA):PT X (.UnaryOp .Not a pos) (tNot tA):=by
 intro pins s σ H Q I h
 exact isTrue_not (ha pins s σ H (fun c H1=>Q (!c) H1) I h)
def tAndV (ta tb:TE):TE:=fun σ H Q=>ta σ H fun x H1=>∃ c,x = .bl c/\if c=true then tb σ H1 Q else Q (.bl false) H1
def tOrV (ta tb:TE):TE:=fun σ H Q=>ta σ H fun x H1=>∃ c,x = .bl c/\if c=true then Q (.bl true) H1 else tb σ H1 Q
def tNotV (ta:TE):TE:=fun σ H Q=>ta σ H fun x H1=>∃ c,x = .bl c/\Q (.bl (!c)) H1
theorem zlr {op} {t:TE} (h:PE X a t):PE X (.BoolOp op [a] pos) t:=fun pins s σ H Q I hw=>BoolOp_one (h pins s σ H Q I hw)
theorem zio (ha:PE X a ta) (hb:PE X (.BoolOp .And (b :: rest) pos) tb):PE X (.BoolOp .And (a :: b :: rest) pos) (tAndV ta tb):=by
 intro pins s σ H Q I h
 refine BoolOp_and (thn (ha pins s σ H _ I h) fun v s1 ⟨x,H1,I1,r1,q1⟩=>?_)
 obtain ⟨c,rfl,q1⟩:=q1
 cases r1
 refine wpAny_truthy_bool ?_
 cases c with
 | true=>exact hb pins s1 σ H1 Q I1 q1
 | false=>exact ⟨.bl false,H1,I1,rfl,q1⟩
theorem pe_or (ha:PE X a ta) (hb:PE X (.BoolOp .Or (b :: rest) pos) tb):PE X (.BoolOp .Or (a :: b :: rest) pos) (tOrV ta tb):=by
 intro pins s σ H Q I h
 refine BoolOp_or (thn (ha pins s σ H _ I h) fun v s1 ⟨x,H1,I1,r1,q1⟩=>?_)
 obtain ⟨c,rfl,q1⟩:=q1
 cases r1
 refine wpAny_truthy_bool ?_
 cases c with
 | false=>exact hb pins s1 σ H1 Q I1 q1
 | true=>exact ⟨.bl true,H1,I1,rfl,q1⟩
theorem zud (ha:PE X a ta):PE X (.UnaryOp .Not a pos) (tNotV ta):=by
 intro pins s σ H Q I h
 refine UnaryOp_ (thn (ha pins s σ H _ I h) fun v s1 ⟨x,H1,I1,r1,q1⟩=>?_)
 obtain ⟨c,rfl,q1⟩:=q1
 cases r1
 exact not_of (wpAny_truthy_bool ⟨.bl (!c),H1,I1,rfl,q1⟩)
def tIf (t:TT) (ta tb:TE):TE:=fun σ H Q=>t σ H fun c H1=>if c=true then ta σ H1 Q else tb σ H1 Q
theorem zsw {c:Expr} (hc:PT X c tA) (ha:PE X a ta) (hb:PE X b tb):PE X (.IfExp c a b pos) (tIf tA ta tb):=by
 intro pins s σ H Q I h
 refine wpAny_IfExp (thn (hc pins s σ H _ I h) fun d s1 ⟨H1,I1,q1⟩=>?_)
 cases d with
 | true=>exact ha pins s1 σ H1 Q I1 q1
 | false=>exact hb pins s1 σ H1 Q I1 q1
end
end L2
namespace L2
open PySem PySem.Spec PyProof.Rows
def SqL (K:PySem.W.Frag) (H:Hp) (a:Addr) (xs:List V):Prop :=
 Rd H a (.lst xs) \/
  ∃ (o:Obj) (its:Array Value) (n:Nat),K.lookup a=some o/\o.cls = .type "list" /\ o.dict=none/\o.data = .seq its n/\its.size<=sizeLine/\Vals xs its.toList
def SqT (K:PySem.W.Frag) (H:Hp) (a:Addr) (xs:List V):Prop :=
 Rd H a (.tup xs) \/
  ∃ (o:Obj) (its:Array Value) (n:Nat),K.lookup a=some o/\o.cls = .type "tuple" /\ o.data = .seq its n/\its.size<=sizeLine/\Vals xs its.toList
def absV:Value->Option V
 | .none=>some .non
 | .bool b=>some (.bl b)
 | .int i _=>some (.int i)
 | .str x _=>some (.str x)
 | .bytes b _=>some (.byt b)
 | .float b _=>some (.flt b)
 | .ref a=>some (.ref a)
 | .type n=>some (.ty n)
 | _=>none
theorem RelV.abs {x:V} {u:Value} (r:RelV x u):absV u=some x:=by
 cases x with
 | non=>cases r; rfl
 | bl _=>cases r; rfl
 | int _=>obtain ⟨t,rfl⟩:=r; rfl
 | str _=>obtain ⟨t,rfl⟩:=r; rfl
 | byt _=>obtain ⟨t,rfl⟩:=r; rfl
 | flt _=>obtain ⟨t,rfl⟩:=r; rfl
 | ref _=>cases r; rfl
 | ty _=>cases r; rfl
theorem RelV.inj {x y:V} {u:Value} (r:RelV x u) (q:RelV y u):x=y:=Option.some.inj (r.abs.symm.trans q.abs)
theorem Vals.inj:∀ {xs ys:List V} {us:List Value},Vals xs us->Vals ys us->xs=ys
 | _,_,_,.nil,.nil=>rfl
 | _,_,_,.cons r t,.cons r' t'=>by rw [r.inj r',Vals.inj t t']
section
variable {X:Cx} {pins:List (Addr×Obj)} {σ:St} {H:Hp} {s:Shared} {a:Addr} {xs ys:List V}
theorem SqL.of {K:PySem.W.Frag} (h:H a=some (.lst xs)):SqL K H a xs:=.inl (.inl h)
theorem SqT.of {K:PySem.W.Frag} (h:H a=some (.tup xs)):SqT K H a xs:=.inl (.inl h)
theorem Inv.list (I:Inv X pins σ H s) (h:SqL X.K H a xs):∃ its:List Value,Vals xs its/\PlainL s.heap a its.toArray/\xs.length<=sizeLine:=by
 rcases h with h | ⟨o,its,n,hk,hc,hd,hs,hz,r⟩
 ·obtain ⟨z,its,n,r,e⟩:=h.ok I.hok
  exact ⟨its,r,⟨_,n,e,rfl,rfl,rfl⟩,z⟩
 ·refine ⟨its.toList,r,⟨o,n,I.kIn a o hk,hc,hd,by simpa using hs⟩,?_⟩
  have e:=r.length
  simp only [Array.length_toList] at e
  omega
theorem Inv.tuple (I:Inv X pins σ H s) (h:SqT X.K H a xs):∃ its:List Value,Vals xs its/\IsTup s.heap a its.toArray/\xs.length<=sizeLine:=by
 rcases h with h | ⟨o,its,n,hk,hc,hs,hz,r⟩
 ·obtain ⟨z,its,r,p⟩:=h.ok I.hok
  exact ⟨its,r,p,z⟩
 ·refine ⟨its.toList,r,⟨o,I.kIn a o hk,hc,n,by simpa using hs⟩,?_⟩
  have e:=r.length
  simp only [Array.length_toList] at e
  omega
theorem Inv.list_inj (I:Inv X pins σ H s) (h:SqL X.K H a xs) (h':SqL X.K H a ys):xs=ys:=by
 obtain ⟨its,r,⟨o,n,e,_,_,d⟩,_⟩:=I.list h
 obtain ⟨its',r',⟨o',n',e',_,_,d'⟩,_⟩:=I.list h'
 rw [e] at e'; cases e'
 rw [d] at d'
 injection d' with d1 _
 have:its=its':=by simpa using congrArg Array.toList d1
 subst this
 exact r.inj r'
end
abbrev Cx.wish (X:Cx) (E:Value->Shared->Prop):Cx:={ X with xe:=E }
abbrev Cx.nox (X:Cx):Cx:=X.wish fun _ _=>False
theorem Cx.Ok.wish {X:Cx} (ok:X.Ok) (E:Value->Shared->Prop):(X.wish E).Ok :=
 ⟨ok.mod,ok.kind,ok.glob,ok.blt,ok.above,ok.inj,ok.has,ok.cab,ok.hd,ok.frames,ok.stk,ok.exf,ok.bs,ok.bsz,ok.noex,ok.exfs,ok.funs,ok.frf⟩
theorem Cx.Ok.unwish {X:Cx} {E:Value->Shared->Prop} (ok:(X.wish E).Ok):X.Ok :=
 ⟨ok.mod,ok.kind,ok.glob,ok.blt,ok.above,ok.inj,ok.has,ok.cab,ok.hd,ok.frames,ok.stk,ok.exf,ok.bs,ok.bsz,ok.noex,ok.exfs,ok.funs,ok.frf⟩
section
variable {X:Cx} {pins:List (Addr×Obj)} {σ:St} {H:Hp} {s:Shared} {E:Value->Shared->Prop}
theorem Inv.wish (I:Inv X pins σ H s) (E:Value->Shared->Prop):Inv (X.wish E) pins σ H s:=⟨I.ok.wish E,I.os,I.bare,I.base,I.loc,I.cell,I.free,I.freeC,I.pin,I.hok,I.len⟩
theorem Inv.unwish (I:Inv (X.wish E) pins σ H s):Inv X pins σ H s:=⟨I.ok.unwish,I.os,I.bare,I.base,I.loc,I.cell,I.free,I.freeC,I.pin,I.hok,I.len⟩
theorem SP.unwish {D:Ends} {f:Flow} {s':Shared} (h:SP (X.wish E) pins D f s'):SP X pins D f s':=by
 cases f with
 | next=>obtain ⟨σ',H',I,q⟩:=h; exact ⟨σ',H',I.unwish,q⟩
 | brk=>obtain ⟨σ',H',I,q⟩:=h; exact ⟨σ',H',I.unwish,q⟩
 | cont=>obtain ⟨σ',H',I,q⟩:=h; exact ⟨σ',H',I.unwish,q⟩
 | ret u=>obtain ⟨v,σ',H',I,r,q⟩:=h; exact ⟨v,σ',H',I.unwish,r,q⟩
theorem PSs.nox {st:List Stmt} {t:TS} (h:PSs X.nox st t):PSs X st t:=fun pins s σ H D I hw =>
 wpAny_mono (h pins s σ H D (I.wish _) hw) (fun _ _ q=>q.unwish) fun _ _ z=>False.elim z
end
section
variable {X:Cx} {st:Stmt} {rest:List Stmt} {t u:TS} {e:Expr} {te:TE} {pos:Pos}
def tNext:TS:=fun D σ H=>D.nx σ H
def tSeq (t u:TS):TS:=fun D σ H=>t { D with nx:=u D } σ H
theorem zaw:PSs X [] tNext:=fun _ _ σ H _ I h=>wpAny_execs_nil ⟨σ,H,I,h⟩
theorem zad (h1:PS X st t) (h2:PSs X rest u):PSs X (st :: rest) (tSeq t u):=by
 intro pins s σ H D I h
 refine wpAny_execs_cons (thn (h1 pins s σ H { D with nx:=u D } I h) fun f s1 q=>?_)
 cases f with
 | next =>
  obtain ⟨σ',H',I',q⟩:=q
  exact h2 pins s1 σ' H' D I' q
 | ret v=>exact q
 | brk=>exact q
 | cont=>exact q
theorem zaf (h1:PS X st t):PSs X [st] t:=by
 intro pins s σ H D I h
 refine wpAny_execs_cons (thn (h1 pins s σ H D I h) fun f s1 q=>?_)
 cases f with
 | next=>exact wpAny_execs_nil q
 | ret v=>exact q
 | brk=>exact q
 | cont=>exact q
theorem zvb:PS X (.Pass pos) tNext:=fun _ _ σ H _ I h=>wpAny_Pass ⟨σ,H,I,h⟩
theorem Inv.quiet {pins:List (Addr×Obj)} {σ:St} {H:Hp} {s:Shared} (I:Inv X pins σ H s):interactive X.env=false:=by simp [interactive,I.ok.kind]
def tDrop (te:TE):TS:=fun D σ H=>te σ H fun _ H1=>D.nx σ H1
theorem zbg (he:PE X e te) (hs:swapsWith e none pos.line X.env=pure false:=by rfl):PS X (.Expr e pos) (tDrop te):=by
 intro pins s σ H D I h
 exact wpAny_Expr_any (thn (he pins s σ H _ I h) fun v s1 ⟨x,H1,I1,r1,q1⟩=>⟨σ,H1,I1,q1⟩) I.quiet hs
def tRet (te:TE):TS:=fun D σ H=>te σ H D.rt
theorem zax (he:PE X e te):PS X (.Return (some e) pos) (tRet te):=by
 intro pins s σ H D I h
 exact wpAny_Return_some (thn (he pins s σ H _ I h) fun v s1 ⟨x,H1,I1,r1,q1⟩=>⟨x,σ,H1,I1,r1,q1⟩)
def tRetN:TS:=fun D _ H=>D.rt .non H
def tIfS (c:TT) (t u:TS):TS:=fun D σ H=>c σ H fun b H1=>if b=true then t D σ H1 else u D σ H1
theorem ps_if {c:Expr} {a b:List Stmt} {tc:TT} (hc:PT X c tc) (ha:PSs X a t) (hb:PSs X b u):PS X (.If c a b pos) (tIfS tc t u):=by
 intro pins s σ H D I h
 refine wpAny_If (thn (hc pins s σ H _ I h) fun d s1 ⟨H1,I1,q1⟩=>?_)
 cases d with
 | true=>exact ha pins s1 σ H1 D I1 q1
 | false=>exact hb pins s1 σ H1 D I1 q1
def zxb:TS:=fun _ _ _=>False
theorem zkk:PS X st zxb:=fun _ _ _ _ _ _ h=>h.elim
end
abbrev TG:=V->St->Hp->(St->Hp->Prop)->Prop
abbrev TGs:=List V->St->Hp->(St->Hp->Prop)->Prop
def PG (X:Cx) (target:Expr) (t:TG):Prop :=
 ∀ (pins:List (Addr×Obj)) (s:Shared) (σ:St) (H:Hp) (v:V) (u:Value) (Q:St->Hp->Prop),Inv X pins σ H s->RelV v u->t v σ H Q ->
  wpAny (model X.prog X.w) X.A (assign target X.env u) (fun _ s'=>∃ σ' H',Inv X pins σ' H' s'/\Q σ' H') X.xe s
def PGs (X:Cx) (ts:List Expr) (t:TGs):Prop :=
 ∀ (pins:List (Addr×Obj)) (s:Shared) (σ:St) (H:Hp) (vs:List V) (us:List Value) (Q:St->Hp->Prop),Inv X pins σ H s->Vals vs us->t vs σ H Q ->
  wpAny (model X.prog X.w) X.A (assignInOrder ((assignEach ts X.env).map (·.2)) us) (fun _ s'=>∃ σ' H',Inv X pins σ' H' s'/\Q σ' H') X.xe s
abbrev TSet:=V->V->V->Hp->(Hp->Prop)->Prop
def PSet (X:Cx) (t:TSet):Prop :=
 ∀ (pins:List (Addr×Obj)) (s:Shared) (σ:St) (H:Hp) (o i v:V) (ov iv u:Value) (Q:Hp->Prop),Inv X pins σ H s->RelV o ov->RelV i iv->RelV v u->t o i v H Q ->
  wpAny (model X.prog X.w) X.A (setItem ov iv u) (fun _ s'=>∃ H',Inv X pins σ H' s'/\Q H') X.xe s
section
variable {X:Cx} {pos:Pos}
def gName (i:Nat):TG:=fun v σ H Q=>Q (σ.set i (some v)) H
theorem zfn {i:Nat} {x:Str} (hN:X.N.Nodup) (hi:X.N[i]? = some x) (hx:Loc X.env.scope x) (hf:X.fn x=true\/X.env.scope.names.lookup x=some .local:=by first | exact .inl rfl | exact .inr rfl | assumption):PG X (.Name x pos) (gName i):=by
 intro pins s σ H v u Q I r h
 exact wpAny_assign_Name (zga I hN hi hx r (fun s' I'=>⟨_,H,I',h⟩) hf)
def gNil:TGs:=fun vs σ H Q=>vs = []/\Q σ H
def gCons (t:TG) (u:TGs):TGs:=fun vs σ H Q=>∃ v r,vs=v :: r/\t v σ H fun σ' H'=>u r σ' H' Q
theorem zvc:PGs X [] gNil:=by
 intro pins s σ H vs us Q I r h
 obtain ⟨e,h⟩:=h
 subst e
 cases r
 exact assignInOrder_nil ⟨σ,H,I,h⟩
theorem zom {e:Expr} {es:List Expr} {t:TG} {u:TGs} (h1:PG X e t) (h2:PGs X es u)
    (hs:(assignEach (e :: es) X.env).map (·.2)=assign e X.env :: (assignEach es X.env).map (·.2):=by rfl):PGs X (e :: es) (gCons t u):=by
  intro pins s σ H vs us Q I r h
  obtain ⟨v,vr,e1,h⟩:=h
  subst e1
  cases r with
  | cons r rr =>
    rw [hs]
    refine assignInOrder_cons (thn (h1 pins s σ H _ _ _ I r h) fun _ s1 ⟨σ1,H1,I1,q1⟩=>?_)
    exact h2 pins s1 σ1 H1 _ _ Q I1 rr q1
def gTup (K:PySem.W.Frag) (n:Nat) (t:TGs):TG:=fun v σ H Q=>∃ a xs,v = .ref a/\SqT K H a xs/\xs.length=n/\t xs σ H Q
theorem zxc {es:List Expr} {k:Nat} {t:TGs} {n:Nat} (hc:X.calm=true) (h:PGs X es t)
    (hn:(assignEach es X.env).length=n:=by rfl) (hst:(assignEach es X.env).findIdx? (·.1)=none:=by rfl):PG X (.Tuple es k pos) (gTup X.K n t):=by
  intro pins s σ H v u Q I r hw
  obtain ⟨a,xs,e1,hq,hl,hw⟩:=hw
  subst e1
  cases r
  obtain ⟨its,rv,ht,hz⟩:=I.tuple hq
  refine assign_Tuple_tuple (I.ok.hd hc) ht (by simp [hn,<- hl,rv.length]) hst fun h' hx=>?_
  have I1:Inv X pins σ H { s with heap:=h' }:=I.kept (t':=s.toks) fun b o e=>hx b o (Nat.ne_of_lt (Heap.lt_size e)) e
  exact h pins _ σ H xs _ Q I1 (by simpa using rv) hw
def gSub (to ti:TE) (t:TSet):TG:=fun v σ H Q=>to σ H fun o H1=>ti σ H1 fun i H2=>t o i v H2 fun H3=>Q σ H3
theorem zqs {o i:Expr} {to ti:TE} {t:TSet} (ho:PE X o to) (hi:PE X i ti) (hs:PSet X t)
    (ha:∀ v,assign (.Subscript o i pos) X.env v=(do
      let ov <- holding [v] (eval o X.env)
      let iv <- holding [v,ov] (eval i X.env)
      standAt pos
      holding [v,ov,iv] (setItem ov iv v)
      release [v,ov,iv] []):=by intro _; rfl):PG X (.Subscript o i pos) (gSub to ti t):=by
  intro pins s σ H v u Q I r h
  rw [ha]
  refine wpAny_bind (wpAny_holding (thn (ho pins s σ H _ I h) fun ov s1 ⟨x,H1,I1,r1,q1⟩=>?_))
  refine wpAny_bind (wpAny_holding (thn (hi pins s1 σ H1 _ I1 q1) fun iv s2 ⟨y,H2,I2,r2,q2⟩=>?_))
  refine wpAny_bind (wpAny_standAt (wpAny_bind (wpAny_holding (thn (hs pins s2 σ H2 x y v ov iv u _ I2 r1 r2 r q2) fun _ s3 ⟨H3,I3,q3⟩=>?_))))
  exact wpAny_release ⟨σ,H3,I3,q3⟩
def tAsg (te:TE) (g:TG):TS:=fun D σ H=>te σ H fun x H1=>g x σ H1 D.nx
theorem zqt {tg e:Expr} {te:TE} {g:TG} (he:PE X e te) (hg:PG X tg g) (hs:swapsWithSole [tg] e pos.line X.env=pure false:=by rfl) (hw:swappedStores [tg] e X.env=pure none:=by rfl)
    (h1:(assignEach [tg] X.env).map (·.2) = [assign tg X.env]:=by rfl):PS X (.Assign [tg] e pos) (tAsg te g):=by
  intro pins s σ H D I h
  refine wpAny_Assign_stores (thn (he pins s σ H _ I h) fun v s1 ⟨x,H1,I1,r1,q1⟩=>?_) hs hw
  rw [h1]
  exact thn (hg pins s1 σ H1 x v _ I1 r1 q1) fun _ s2 q=>q
theorem zbd {i:Nat} {x:Str} {e:Expr} {te:TE} {pos':Pos} (hN:X.N.Nodup) (hi:X.N[i]? = some x) (hx:Loc X.env.scope x) (he:PE X e te) (hs:swapsWith e (some (.Name x pos')) pos.line X.env=pure false:=by rfl) (hf:X.fn x=true\/X.env.scope.names.lookup x=some .local:=by first | exact .inl rfl | exact .inr rfl | assumption) :
    PS X (.Assign [.Name x pos'] e pos) (tAsg te (gName i)):=by
  intro pins s σ H D I h
  refine wpAny_Assign_Name (thn (he pins s σ H _ I h) fun v s1 ⟨y,H1,I1,r1,q1⟩=>?_) hs
  exact zga I1 hN hi hx r1 (fun s2 I2=>⟨_,H1,I2,q1⟩) hf
def tPar (i j:Nat) (ta:TA):TS:=fun D σ H=>ta σ H fun vs H1=>∃ v w,vs = [v,w]/\D.nx ((σ.set i (some v)).set j (some w)) H1
theorem zxd {i j:Nat} {x y:Str} {a b:Expr} {ta:TA} {px py pt:Pos} {kt k2 pt2} (hc:X.calm=true) (hN:X.N.Nodup) (hi:X.N[i]? = some x) (hj:X.N[j]? = some y) (hij:i≠j)
    (hx:X.env.scope.names.lookup x=some .local) (hy:X.env.scope.names.lookup y=some .local) (ha:PA X [a,b] ta)
    (hw:swappedStores [.Tuple [.Name x px,.Name y py] kt pt] (.Tuple [a,b] k2 pt2) X.env=pure (some [x,y]))
    (hs:swapsWithSole [.Tuple [.Name x px,.Name y py] kt pt] (.Tuple [a,b] k2 pt2) pos.line X.env=pure false:=by rfl) :
    PS X (.Assign [.Tuple [.Name x px,.Name y py] kt pt] (.Tuple [a,b] k2 pt2) pos) (tPar i j ta):=by
  intro pins s σ H D I h
  rw [exec_Assign_arm]
  refine wpAny_bind (wpAny_standAt ?_)
  rw [hs]
  refine wpAny_bind (wpAny_pure ?_)
  rw [if_neg (by decide)]
  refine wpAny_bind (Tuple_ (thn (ha _ pins s σ H _ I h) fun us s1 ⟨vs,H1,I1,r1,q1⟩=>?_))
  obtain ⟨v,w,e1,q1⟩:=q1
  subst e1
  obtain ⟨u1,u2,rfl,rv,rw'⟩:∃ u1 u2,us = [u1,u2]/\RelV v u1/\RelV w u2:=by
    cases r1 with
    | cons p q =>
      cases q with
      | cons p' q' =>
        cases q'
        exact ⟨_,_,rfl,p,p'⟩
  refine wpAny_newObj_type ?_ (by show 2<=sizeLine; decide)
  have I2:Inv X pins σ H1 { s1 with heap:=s1.heap.push { cls:=.type "tuple", data:=.seq [u1,u2].toArray } }:=I1.kept (t':=s1.toks) fun b o e=>Heap.get?_push_of_some _ e
  rw [hw]
  refine wpAny_bind (wpAny_pure ?_)
  show wpAny (model X.prog X.w) X.A (do rule "assign.swapped-stores"; let items <- unpackItems (.ref s1.heap.objs.size) 2 none; assignInOrder [fun v=>bindName X.env y v,fun v=>bindName X.env x v] items.reverse; pure Flow.next) _ _ _
  refine wpAny_bind (wpAny_rule (wpAny_bind (unpackItems_tuple (items:=#[u1,u2]) (I.ok.hd hc) (IsTup.new s1.heap _) fun h' hx'=>?_)))
  have I3:=I2.kept (h':=h') (t':=s1.toks) fun b o e=>hx' b o (Nat.ne_of_lt (Heap.lt_size e)) e
  show wpAny _ _ (assignInOrder [fun v=>bindName X.env y v,fun v=>bindName X.env x v] [u2,u1] >>= fun _=>pure Flow.next) _ _ _
  refine wpAny_bind (assignInOrder_cons (wpAny_bindName (zga I3 hN hj (.inl hy) rw' (fun s2 I4=>?_) (.inr hy))))
  refine assignInOrder_cons (wpAny_bindName (zga I4 hN hi (.inl hx) rv (fun s3 I5=>assignInOrder_nil (wpAny_pure ?_)) (.inr hx)))
  rw [List.set_comm _ _ (Ne.symm hij)] at I5
  exact ⟨_,H1,I5,q1⟩
end
section
variable {X:Cx} {pos:Pos}
def zqu (c:TT) (tb:TS):TS:=fun D σ H=>∃ W:Nat->St->Hp->Prop,(∃ m,W m σ H)/\∀ m σ H,W m σ H ->
 c σ H fun b H1=>if b=true then ∃ N:St->Hp->Prop,(∀ σ' H',N σ' H'->∃ m',m' < m/\W m' σ' H')/\tb { D with nx:=N,ct:=N,bk:=D.nx } σ H1 else D.nx σ H1
theorem zif {c:Expr} {body:List Stmt} {tc:TT} {tb:TS} (hp:PassesOwn (model X.prog X.w) X.A X.env X.xe) (hc:PT X c tc) (hb:PSs X body tb):PS X (.While c body [] pos) (zqu tc tb):=by
 intro pins s σ H D I h
 obtain ⟨W,⟨m0,w0⟩,turn⟩:=h
 refine wpAny_While (codeAny_whileLoop (fun n s'=>∃ σ' H',Inv X pins σ' H' s'/\W n σ' H') ?_ m0 ⟨σ,H,I,w0⟩)
 rintro n s1 ⟨σ1,H1,I1,w1⟩
 refine wpAny_passesOwn hp (thn (hc pins s1 σ1 H1 _ I1 (turn n σ1 H1 w1)) fun b s2 ⟨H2,I2,q2⟩=>?_)
 cases b with
 | true =>
  obtain ⟨N,hN,q2⟩:=q2
  rw [if_pos rfl]
  refine wpAny_passesOwn hp (thn (hb pins s2 σ1 H2 _ I2 q2) fun f s3 q3=>?_)
  cases f with
  | next =>
   obtain ⟨σ3,H3,I3,n3⟩:=q3
   obtain ⟨m',hm,w3⟩:=hN σ3 H3 n3
   exact ⟨m',hm,σ3,H3,I3,w3⟩
  | cont =>
   obtain ⟨σ3,H3,I3,n3⟩:=q3
   obtain ⟨m',hm,w3⟩:=hN σ3 H3 n3
   exact ⟨m',hm,σ3,H3,I3,w3⟩
  | brk=>exact q3
  | ret v=>exact q3
 | false =>
  rw [if_neg Bool.false_ne_true]
  exact wpAny_execs_nil ⟨σ1,H2,I2,q2⟩
end
structure It where
 go:Nat->Hp->Prop
 yld:Nat->Hp->V->Hp->Prop
 stop:Nat->Hp->Prop
def FpOk (X:Cx) (pins:List (Addr×Obj)) (H:Hp) (b:Addr):Prop :=
 H b=none/\b≠X.env.locals/\b ∉ X.fs/\(b∈X.ex\/X.s₀.heap.objs.size<=b)/\(∀ x c,X.env.cells.lookup x=some c->c≠b)/\∀ p∈X.pn++pins,p.1≠b
theorem Inv.fpOk {X:Cx} {pins:List (Addr×Obj)} {σ:St} {H H':Hp} {s:Shared} {b:Addr} (I:Inv X pins σ H s) (hb:s.heap.objs.size<=b) (hn:H' b=none):FpOk X pins H' b:=by
 refine ⟨hn,Nat.ne_of_gt (Nat.lt_of_lt_of_le I.lt hb),I.nofs hb,.inr (Nat.le_trans I.sz hb),fun x c e z=>?_,fun p hp z=>?_⟩
 ·obtain ⟨v,q⟩:=I.cell x c e
  exact absurd (Nat.lt_of_lt_of_le q.lt (by rw [z]; exact hb)) (Nat.lt_irrefl _)
 ·exact absurd (Nat.lt_of_lt_of_le (Heap.lt_size (I.pin p hp).1) (by rw [z]; exact hb)) (Nat.lt_irrefl _)
structure Turn (P:Program) (w:World) (K:PySem.W.Frag) (tg:Expr) (J:It) (fp:List Addr) (it:Addr) (tn:Nat->Heap->Prop):Prop where
 mem:it∈fp
 obj:∀ i h,tn i h->∀ b∈fp,∃ o,h.get? b=some o/\∀ v,o.data≠.cell v
 keep:∀ i h h',tn i h->(∀ b∈fp,∀ o,h.get? b=some o->h'.get? b=some o)->tn i h'
 item:∀ (X:Cx),X.prog=P->X.w=w->X.K=K->X.calm=true->∀ (i:Nat) (pins:List (Addr×Obj)) (s:Shared) (σ:St) (H:Hp) (E:Value->Shared->Prop),Inv X pins σ H s->(∀ b∈fp,FpOk X pins H b)->tn i s.heap->J.go i H ->
  wpAny (model P w) X.A (pyNext (.ref it)) (fun r s1=>∃ u,r=some u /\
   wpAny (model P w) X.A (letOwnedTupleGo tg (.ref it) u) (fun _ s2=>∃ x H',Inv X pins σ H' s2/\RelV x u/\J.yld i H x H'/\tn (i+1) s2.heap/\∀ b∈fp,H' b=none) E s1) E s
 done:∀ (X:Cx),X.prog=P->X.w=w->X.K=K->X.calm=true->∀ (i:Nat) (pins:List (Addr×Obj)) (s:Shared) (σ:St) (H:Hp) (E:Value->Shared->Prop),Inv X pins σ H s->(∀ b∈fp,FpOk X pins H b)->tn i s.heap->J.stop i H ->
  wpAny (model P w) X.A (pyNext (.ref it)) (fun r s1=>r=none/\Inv X pins σ H s1) E s
 self:∀ (A:Around) (i:Nat) (s:Shared) (Q:Value->Shared->Prop) (E:Value->Shared->Prop),tn i s.heap->Q (.ref it) s->wpAny (model P w) A (pyIter (.ref it)) Q E s
abbrev TI:=St->Hp->(It->Hp->Prop)->Prop
def PIE (X:Cx) (pins:List (Addr×Obj)) (σ:St) (tg:Expr) (R:It->Hp->Prop) (itv:Value) (s2:Shared):Prop :=
 ∃ (it:Addr) (fp:List Addr) (tn:Nat->Heap->Prop) (J:It) (H':Hp),itv = .ref it/\Inv X pins σ H' s2/\Turn X.prog X.w X.K tg J fp it tn/\tn 0 s2.heap/\(∀ b∈fp,FpOk X pins H' b)/\R J H'
def PI (X:Cx) (tg iter:Expr) (wi:TI):Prop :=
 ∀ (pins:List (Addr×Obj)) (s:Shared) (σ:St) (H:Hp) (R:It->Hp->Prop),Inv X pins σ H s->wi σ H R ->
  wpAny (model X.prog X.w) X.A (eval iter X.env) (fun v s1=>wpAny (model X.prog X.w) X.A (pyIter v) (PIE X pins σ tg R) X.xe s1) X.xe s
theorem go_of {M:Model} {A:Around} {E:Value->Shared->Prop} {s:Shared} {tg:Expr} {it:Addr} {u:Value} {o:Obj} {n:String} {vs:Array Value} {Q:Unit->Shared->Prop} (ho:s.heap.get? it=some o) (hc:o.cls = .type n) (hd:o.data = .fields vs)
    (hn:["enumerate", "zip", "dict_itemiterator", "dict_reverseitemiterator", "odict_iterator", "itertools.zip_longest", "itertools.pairwise"].contains n=false) (hQ:Q () s):wpAny M A (letOwnedTupleGo tg (.ref it) u) Q E s:=by
  unfold letOwnedTupleGo
  cases tg <;> first
    | exact wpAny_pure hQ
    | (cases u <;> first
        | exact wpAny_pure hQ
        | (refine wpAny_bind (wpAny_load ho ?_)
           rw [hc,hd]
           show wpAny M A (if (["enumerate", "zip", "dict_itemiterator", "dict_reverseitemiterator", "odict_iterator", "itertools.zip_longest", "itertools.pairwise"].contains n && vs[0]? == some (rawInt _))=true then _ else _) Q E s
           rw [if_neg (by intro h; rw [hn,Bool.false_and] at h; cases h)]
           exact wpAny_pure hQ))
def Itl (K:PySem.W.Frag) (a:Addr):It :=
 ⟨fun i H=>∃ xs x,SqL K H a xs/\xs[i]? = some x,fun i H x H'=>H'=H/\∀ xs,SqL K H a xs->xs[i]? = some x,fun i H=>∃ xs,SqL K H a xs/\xs.length<=i⟩
def Itt (K:PySem.W.Frag) (a:Addr):It :=
 ⟨fun i H=>∃ xs x,SqT K H a xs/\xs[i]? = some x,fun i H x H'=>H'=H/\∀ xs,SqT K H a xs->xs[i]? = some x,fun i H=>∃ xs,SqT K H a xs/\xs.length<=i⟩
def Itr (lo:Int) (n:Nat):It:=⟨fun i _=>i<n,fun i H x H'=>H'=H/\x = .int (lo+i),fun i _=>n<=i⟩
theorem zqv {P:Program} {w:World} {K:PySem.W.Frag} {tg:Expr} (a it:Addr):Turn P w K tg (Itl K a) [it] it (fun i h=>h.IsListIter it a i) where
 mem:=by simp
 obj:=fun i h st b hb=>by
  have e:b=it:=by simpa using hb
  subst e
  obtain ⟨o,e,c,d⟩:=st
  exact ⟨o,e,fun v z=>by rw [d] at z; cases z⟩
 keep:=fun i h h' st k=>st.at fun o e=>k it (by simp) o e
 item:=by
  intro X hP hw hK hc i pins s σ H E I hf st hg
  subst hP hw hK
  obtain ⟨xs,x,hq,hx⟩:=hg
  obtain ⟨its,rv,p,hz⟩:=I.list hq
  obtain ⟨u,hu,ru⟩:=rv.get hx
  obtain ⟨f0,f1,f2,f3,f4,f5⟩:=hf it (by simp)
  refine wpAny_pyNext_list_item st p.isList (x:=u) (by simpa using hu) fun h' st' sb=>?_
  have I1:Inv X pins σ H { s with heap:=h' }:=I.turned (t':=s.toks) (fun b o hb e=>(sb.2 b hb).trans e) f0 f1 f3 f4 f5
  obtain ⟨o,e,c,d⟩:=id st'
  exact ⟨u,rfl,go_of (s:={ s with heap:=h' }) e c d (by decide) ⟨x,H,I1,ru,⟨rfl,fun ys hy=>by rw [I.list_inj hy hq]; exact hx⟩,st',fun b hb=>(hf b hb).1⟩⟩
 done:=by
  intro X hP hw hK hc i pins s σ H E I hf st hg
  subst hP hw hK
  obtain ⟨xs,hq,hx⟩:=hg
  obtain ⟨its,rv,p,hz⟩:=I.list hq
  obtain ⟨f0,f1,f2,f3,f4,f5⟩:=hf it (by simp)
  have hl:=rv.length
  exact wpAny_pyNext_list_end (I.ok.hd hc) st p.isList (by simp; omega) fun h' eb=>⟨rfl,I.turned (t':=s.toks) (fun b o hb e=>eb b o hb e) f0 f1 f3 f4 f5⟩
 self:=fun _ _ _ _ _ st h=>wpAny_pyIter_listiter st h
theorem zpt {P:Program} {w:World} {K:PySem.W.Frag} {tg:Expr} (it:Addr) (lo:Int) (n:Nat):Turn P w K tg (Itr lo n) [it] it (fun i h=>IsRangeIter h it (lo+(i:Nat)*1) ((n:Int)-(i:Nat)) 1) where
 mem:=by simp
 obj:=fun i h st b hb=>by
  have e:b=it:=by simpa using hb
  subst e
  exact ⟨_,st,fun v z=>by
   have z':Data.fields _=Data.cell v:=z
   cases z'⟩
 keep:=fun i h h' st k=>k it (by simp) _ st
 item:=by
  intro X hP hw hK hc i pins s σ H E I hf st hg
  subst hP hw hK
  obtain ⟨f0,f1,f2,f3,f4,f5⟩:=hf it (by simp)
  have W:=Walks.range (prog:=X.prog) (w:=X.w) (I.ok.hd hc) it lo 1 n
  refine W.item i s _ _ hg st fun v h' tk hv st' kk=>?_
  obtain ⟨t,rfl⟩:=hv
  have I1:Inv X pins σ H { s with heap:=h',toks:=tk }:=I.turned (fun b o hb e=>kk b o (by simpa using hb) e) f0 f1 f3 f4 f5
  refine ⟨_,rfl,go_of (s:={ s with heap:=h',toks:=tk }) (n := "range_iterator") st' rfl rfl (by decide) ⟨.int (lo+i),H,I1,⟨t,?_⟩,⟨rfl,rfl⟩,st',fun b hb=>(hf b hb).1⟩⟩
  rw [Int.mul_one]
 done:=by
  intro X hP hw hK hc i pins s σ H E I hf st hg
  subst hP hw hK
  obtain ⟨f0,f1,f2,f3,f4,f5⟩:=hf it (by simp)
  exact wpAny_pyNext_range_end (I.ok.hd hc) st (by have:n<=i:=hg; omega) fun h' eb=>⟨rfl,I.turned (t':=s.toks) (fun b o hb e=>eb b o hb e) f0 f1 f3 f4 f5⟩
 self:=fun _ _ _ _ _ st h=>wpAny_pyIter_rangeiter st h
end L2
namespace L2
open PySem PySem.Spec PyProof.Rows
section
variable {X:Cx} {tg:Expr}
def iList (K:PySem.W.Frag) (tl:TE):TI:=fun σ H R=>tl σ H fun x H1=>∃ a,x = .ref a/\(∃ xs,SqL K H1 a xs)/\R (Itl K a) H1
def iTup (K:PySem.W.Frag) (tl:TE):TI:=fun σ H R=>tl σ H fun x H1=>∃ a,x = .ref a/\(∃ xs,SqT K H1 a xs)/\R (Itt K a) H1
theorem zvd {l:Expr} {tl:TE} (hl:PE X l tl):PI X tg l (iList X.K tl):=by
 intro pins s σ H R I h
 refine thn (hl pins s σ H _ I h) fun v s1 ⟨x,H1,I1,r1,q1⟩=>?_
 obtain ⟨a,e,⟨xs,hq⟩,q⟩:=q1
 subst e
 cases r1
 obtain ⟨its,rv,p,hz⟩:=I1.list hq
 refine wpAny_pyIter_list p.isList ?_
 refine ⟨s1.heap.objs.size,[s1.heap.objs.size],_,_,H1,rfl,I1.kept (t':=s1.toks) fun b o e=>Heap.get?_push_of_some _ e,zqv a _,⟨_,Heap.get?_push_size _ rfl,rfl,rfl⟩,fun b hb=>?_,q⟩
 have e:b=s1.heap.objs.size:=by simpa using hb
 subst e
 exact I1.fpOk (Nat.le_refl _) (I1.hok.fresh (Nat.le_refl _))
theorem zsx {pins:List (Addr×Obj)} {σ:St} {H:Hp} {s:Shared} {R:It->Hp->Prop} {E:Value->Shared->Prop} {lo hi:Int} {t u v:Tok} {tk:Nat} (I:Inv X pins σ H s) (h1:-(2 ^ 62)<=lo) (h2:lo<2 ^ 62) (h3:-(2 ^ 62)<=hi) (h4:hi<2 ^ 62)
    (q:R (Itr lo (hi-lo).toNat) H):wpAny (model X.prog X.w) X.A (pyIter (.ref s.heap.objs.size)) (PIE X pins σ tg R) E { s with heap:=s.heap.push { cls:=.type "range", data:=.fields #[.int lo t,.int hi u,.int 1 v] },toks:=tk }:=by
  refine wpAny_pyIter_range (IsRange.new ..) (small_one h1 h2 h3 h4) ?_
  have I1:Inv X pins σ H { s with heap:=s.heap.push { cls:=.type "range", data:=.fields #[.int lo t,.int hi u,.int 1 v] },toks:=tk }:=I.kept fun b o e=>Heap.get?_push_of_some _ e
  refine ⟨(s.heap.push { cls:=.type "range", data:=.fields #[.int lo t,.int hi u,.int 1 v] }).objs.size,[(s.heap.push { cls:=.type "range", data:=.fields #[.int lo t,.int hi u,.int 1 v] }).objs.size],_,_,H,rfl,
    I1.kept (t':=tk) fun b o e=>Heap.get?_push_of_some _ e,zpt _ lo (hi-lo).toNat,?_,fun b hb=>?_,q⟩
  · have e1:lo+((0:Nat):Int)*1=lo:=by simp
    have e2:(((hi-lo).toNat:Nat):Int)-((0:Nat):Int)=Builtin.Range.rangeSize lo hi 1:=by rw [rangeSize_one]; split <;> omega
    show IsRangeIter _ _ (lo+((0:Nat):Int)*1) ((((hi-lo).toNat:Nat):Int)-((0:Nat):Int)) 1
    rw [e1,e2]
    exact Heap.get?_push_size _ rfl
  · have e:b=(s.heap.push { cls:=.type "range", data:=.fields #[.int lo t,.int hi u,.int 1 v] }).objs.size:=by simpa using hb
    subst e
    exact I1.fpOk (Nat.le_refl _) (I1.hok.fresh (Nat.le_refl _))
def iRng1 (ta:TA):TI:=fun σ H R=>ta σ H fun vs H1=>∃ j:Int,vs = [.int j]/\-(2 ^ 62)<=j/\j<2 ^ 62/\R (Itr 0 j.toNat) H1
def iRng2 (ta:TA):TI:=fun σ H R=>ta σ H fun vs H1=>∃ i j:Int,vs = [.int i,.int j]/\(-(2 ^ 62)<=i/\i<2 ^ 62/\-(2 ^ 62)<=j/\j<2 ^ 62)/\R (Itr i (j-i).toNat) H1
theorem zls {a:Expr} {ta:TA} {p pos:Pos} (hg:Gl X "range") (hm:X.mg "range" = none) (ha:PA X [a] ta) (hs:starEach [a] X.env = [(false,eval a X.env)]:=by rfl):PI X tg (.Call (.Name "range" p) [a] [] pos) (iRng1 ta):=by
 intro pins s σ H R I h
 refine Call_ (zlq I hg hm boot_range (PyProof.Rows.callWith_type1 (thn (ha pos pins s σ H _ I h) fun us s1 ⟨vs,H1,I1,r1,q1⟩=>?_) hs rfl))
 obtain ⟨j,e,q1,q2,q⟩:=q1
 subst e
 cases r1 with
 | cons r rr =>
  cases rr
  obtain ⟨t,rfl⟩:=r
  exact call_range_1 (zsx I1 (by omega) (by omega) q1 q2 (by simpa using q))
def tFor (wi:TI) (g:TG) (tb:TS):TS:=fun D σ H=>wi σ H fun J H1=>∃ W:Nat->Nat->St->Hp->Prop,(∃ m,W 0 m σ H1)/\∀ i m σ H,W i m σ H ->
 (J.stop i H/\D.nx σ H)\/(J.go i H/\∃ N:St->Hp->Prop,(∀ σ' H',N σ' H'->∃ m',m' < m/\W (i+1) m' σ' H')/\∀ x H',J.yld i H x H'->g x σ H' fun σ2 H2=>tb { D with nx:=N,ct:=N,bk:=D.nx } σ2 H2)
def zka (fp:List Addr) (h:Heap):List (Addr×Obj):=fp.filterMap fun b=>(h.get? b).map fun o=>(b,o)
theorem zez {fp:List Addr} {h:Heap} {b:Addr} {o:Obj} (hb:b∈fp) (e:h.get? b=some o):(b,o)∈zka fp h:=List.mem_filterMap.mpr ⟨b,hb,by rw [e]; rfl⟩
theorem zqw {fp:List Addr} {h:Heap} {p:Addr×Obj} (hp:p∈zka fp h):p.1∈fp/\h.get? p.1=some p.2:=by
 obtain ⟨b,hb,e⟩:=List.mem_filterMap.mp hp
 cases q:h.get? b with
 | none=>rw [q] at e; cases e
 | some o =>
  rw [q] at e
  have e':(b,o)=p:=Option.some.inj e
  subst e'
  exact ⟨hb,q⟩
theorem Inv.pinned {pins:List (Addr×Obj)} {σ:St} {H:Hp} {s:Shared} {fp:List Addr} (I:Inv X pins σ H s) (hf:∀ b∈fp,FpOk X pins H b) (ho:∀ b∈fp,∃ o,s.heap.get? b=some o/\∀ v,o.data≠.cell v):Inv X (pins++zka fp s.heap) σ H s :=
 I.pins_of fun p hp=>(List.mem_append.mp hp).elim (fun z=>I.pin p (List.mem_append_right _ z)) fun z=>by
  obtain ⟨hb,e⟩:=zqw z
  obtain ⟨f0,f1,f2,_⟩:=hf p.1 hb
  obtain ⟨o,e',d⟩:=ho p.1 hb
  rw [e] at e'; cases e'
  exact ⟨e,f0,f1,f2,d⟩
theorem Inv.unpinned {pins pl:List (Addr×Obj)} {σ:St} {H:Hp} {s:Shared} (I:Inv X (pins++pl) σ H s):Inv X pins σ H s:=I.pins_of fun p hp=>I.pin p (List.mem_append_right _ (List.mem_append_left _ hp))
theorem zon {iter:Expr} {body:List Stmt} {wi:TI} {g:TG} {tb:TS} {pos:Pos} (hp:PassesOwn (model X.prog X.w) X.A X.env X.xe) (hc:X.calm=true) (hi:PI X tg iter wi) (hg:PG X tg g) (hb:PSs X body tb)
    (hs:∀ x,foldedSetIterable iter X.env x=pure x:=by intro _; rfl):PS X (.For tg iter body [] pos) (tFor wi g tb):=by
  intro pins s σ H D I h
  refine wpAny_For (thn (hi pins s σ H _ I h) fun v s1 h1=>thn h1 fun itv s2 h2=>?_) hs
  obtain ⟨it,fp,tn,J,H2,e,I2,T,st2,f2,W,⟨m0,w0⟩,turn⟩:=h2
  subst e
  have stat:∀ {H':Hp},(∀ b∈fp,H' b=none)->∀ b∈fp,FpOk X pins H' b:=fun hn b hb=>⟨hn b hb,(f2 b hb).2⟩
  refine codeAny_forLoop_any (fun n s'=>∃ i σ' H',Inv X pins σ' H' s'/\tn i s'.heap/\(∀ b∈fp,H' b=none)/\W i n σ' H') ?_ m0 ⟨0,σ,H2,I2,st2,fun b hb=>(f2 b hb).1,w0⟩
  rintro n s3 ⟨i,σ3,H3,I3,st3,fr3,w3⟩
  rcases turn i n σ3 H3 w3 with ⟨stop,qn⟩ | ⟨go,N,hN,step⟩
  · refine wpAny_passesOwn hp (thn (T.done X rfl rfl rfl hc i pins s3 σ3 H3 X.xe I3 (stat fr3) st3 stop) fun r s4 ⟨hr,I4⟩=>?_)
    subst hr
    exact wpAny_execs_nil ⟨σ3,H3,I4,qn⟩
  · refine wpAny_passesOwn hp (thn (T.item X rfl rfl rfl hc i pins s3 σ3 H3 X.xe I3 (stat fr3) st3 go) fun r s4 ⟨u,hr,h4⟩=>?_)
    subst hr
    refine wpAny_passesOwn hp (thn h4 fun _ s5 ⟨x,H5,I5,r5,y5,st5,fr5⟩=>?_)
    have I5':=I5.pinned (stat fr5) (T.obj _ _ st5)
    refine wpAny_passesOwn hp (thn (hg _ s5 σ3 H5 x u _ I5' r5 (step x H5 y5)) fun _ s6 ⟨σ6,H6,I6,q6⟩=>?_)
    refine wpAny_passesOwn hp (thn (hb _ s6 σ6 H6 _ I6 q6) fun f s7 q7=>?_)
    have again:∀ {σ7:St} {H7:Hp},Inv X (pins++zka fp s5.heap) σ7 H7 s7->N σ7 H7->∃ m,m<n/\∃ i σ' H',Inv X pins σ' H' s7/\tn i s7.heap/\(∀ b∈fp,H' b=none)/\W i m σ' H':=fun {σ7 H7} I7 n7=>by
      obtain ⟨m',hm,w7⟩:=hN σ7 H7 n7
      refine ⟨m',hm,i+1,σ7,H7,I7.unpinned,T.keep _ _ _ st5 fun b hb o e=>(I7.pin (b,o) (List.mem_append_right _ (List.mem_append_right _ (zez hb e)))).1,fun b hb=>?_,w7⟩
      obtain ⟨o,e,d⟩:=T.obj _ _ st5 b hb
      exact (I7.pin (b,o) (List.mem_append_right _ (List.mem_append_right _ (zez hb e)))).2.1
    cases f with
    | next=>obtain ⟨σ7,H7,I7,n7⟩:=q7; exact again I7 n7
    | cont=>obtain ⟨σ7,H7,I7,n7⟩:=q7; exact again I7 n7
    | brk=>obtain ⟨σ7,H7,I7,q7⟩:=q7; exact ⟨σ7,H7,I7.unpinned,q7⟩
    | ret v=>obtain ⟨x7,σ7,H7,I7,r7,q7⟩:=q7; exact ⟨x7,σ7,H7,I7.unpinned,r7,q7⟩
end
theorem zoo {K:PySem.W.Frag} {a:Addr} {xs:List V} {g:TG} {tb:TS} {D:Ends} {σ:St} {H:Hp} (Pv:Nat->St->Hp->Prop) (h0:Pv 0 σ H) (hl:∀ i σ H,i<=xs.length->Pv i σ H->SqL K H a xs)
    (hs:∀ i x σ H,xs[i]? = some x->Pv i σ H->g x σ H fun σ2 H2=>tb { D with nx:=Pv (i+1),ct:=Pv (i+1),bk:=D.nx } σ2 H2) (hd:∀ σ H,Pv xs.length σ H->D.nx σ H) :
    ∃ W:Nat->Nat->St->Hp->Prop,(∃ m,W 0 m σ H)/\∀ i m σ H,W i m σ H ->
      ((Itl K a).stop i H/\D.nx σ H)\/((Itl K a).go i H/\∃ N:St->Hp->Prop,(∀ σ' H',N σ' H'->∃ m',m' < m/\W (i+1) m' σ' H')/\∀ x H',(Itl K a).yld i H x H'->g x σ H' fun σ2 H2=>tb { D with nx:=N,ct:=N,bk:=D.nx } σ2 H2):=by
  refine ⟨fun i m σ H=>m=xs.length-i/\i<=xs.length/\Pv i σ H,⟨xs.length,by simp,Nat.zero_le _,h0⟩,?_⟩
  rintro i m σ H ⟨rfl,hi,p⟩
  have q:=hl i σ H hi p
  by_cases hlt:i<xs.length
  · refine .inr ⟨⟨xs,xs[i],q,by simp [hlt]⟩,Pv (i+1),fun σ' H' p'=>⟨xs.length-(i+1),by omega,rfl,hlt,p'⟩,fun x H' y=>?_⟩
    obtain ⟨e,y⟩:=y
    subst e
    exact hs i x σ _ (y xs q) p
  · have e:i=xs.length:=by omega
    subst e
    exact .inl ⟨⟨xs,q,Nat.le_refl _⟩,hd σ H p⟩
theorem zlt {lo:Int} {n:Nat} {g:TG} {tb:TS} {D:Ends} {σ:St} {H:Hp} (Pv:Nat->St->Hp->Prop) (h0:Pv 0 σ H)
    (hs:∀ i σ H,i<n->Pv i σ H->g (.int (lo+i)) σ H fun σ2 H2=>tb { D with nx:=Pv (i+1),ct:=Pv (i+1),bk:=D.nx } σ2 H2) (hd:∀ σ H,Pv n σ H->D.nx σ H) :
    ∃ W:Nat->Nat->St->Hp->Prop,(∃ m,W 0 m σ H)/\∀ i m σ H,W i m σ H ->
      ((Itr lo n).stop i H/\D.nx σ H)\/((Itr lo n).go i H/\∃ N:St->Hp->Prop,(∀ σ' H',N σ' H'->∃ m',m' < m/\W (i+1) m' σ' H')/\∀ x H',(Itr lo n).yld i H x H'->g x σ H' fun σ2 H2=>tb { D with nx:=N,ct:=N,bk:=D.nx } σ2 H2):=by
  refine ⟨fun i m σ H=>m=n-i/\i<=n/\Pv i σ H,⟨n,by simp,Nat.zero_le _,h0⟩,?_⟩
  rintro i m σ H ⟨rfl,hi,p⟩
  by_cases hlt:i<n
  · refine .inr ⟨hlt,Pv (i+1),fun σ' H' p'=>⟨n-(i+1),by omega,rfl,hlt,p'⟩,fun x H' y=>?_⟩
    obtain ⟨e,y⟩:=y
    subst e y
    exact hs i σ _ hlt p
  · have e:i=n:=by omega
    subst e
    exact .inl ⟨Nat.le_refl _,hd σ H p⟩
end L2
namespace L2
open PySem PySem.Spec PyProof.Rows
abbrev R2:=V->V->Hp->VK->Prop
def OpR (X:Cx) (f:Value->Value->Sem Value) (r:R2):Prop :=
 ∀ (pins:List (Addr×Obj)) (s:Shared) (σ:St) (H:Hp) (x y:V) (v u:Value) (Q:VK),Inv X pins σ H s->RelV x v->RelV y u->r x y H Q ->
  wpAny (model X.prog X.w) X.A (f v u) (EP X pins σ Q) X.xe s
def UnR (X:Cx) (f:Value->Sem Value) (r:V->Hp->VK->Prop):Prop :=
 ∀ (pins:List (Addr×Obj)) (s:Shared) (σ:St) (H:Hp) (x:V) (v:Value) (Q:VK),Inv X pins σ H s->RelV x v->r x H Q ->
  wpAny (model X.prog X.w) X.A (f v) (EP X pins σ Q) X.xe s
def CallR (X:Cx) (f:Value) (r:List V->Hp->VK->Prop):Prop :=
 ∀ (pins:List (Addr×Obj)) (s:Shared) (σ:St) (H:Hp) (xs:List V) (us:List Value) (Q:VK),Inv X pins σ H s->Vals xs us->r xs H Q ->
  wpAny (model X.prog X.w) X.A (call f us) (EP X pins σ Q) X.xe s
def TruR (X:Cx) (r:V->Hp->(Bool->Hp->Prop)->Prop):Prop :=
 ∀ (pins:List (Addr×Obj)) (s:Shared) (σ:St) (H:Hp) (x:V) (v:Value) (Q:Bool->Hp->Prop),Inv X pins σ H s->RelV x v->r x H Q ->
  wpAny (model X.prog X.w) X.A (truthy v) (TP X pins σ Q) X.xe s
def tOp (r:R2) (ta tb:TE):TE:=fun σ H Q=>ta σ H fun x H1=>tb σ H1 fun y H2=>r x y H2 Q
def tUn (r:V->Hp->VK->Prop) (ta:TE):TE:=fun σ H Q=>ta σ H fun x H1=>r x H1 Q
def rI (C:Int->Int->Prop) (g:Int->Int->V):R2:=fun x y H Q=>∃ i j,x = .int i/\y = .int j/\C i j/\Q (g i j) H
def rI0 (g:Int->Int->V):R2:=fun x y H Q=>∃ i j,x = .int i/\y = .int j/\Q (g i j) H
def rU (g:Int->V):V->Hp->VK->Prop:=fun x H Q=>∃ i,x = .int i/\Q (g i) H
section
variable {X:Cx} {a b c:Expr} {ta tb tc:TE} {pos:Pos}
theorem binT (ha:PE X a ta) (hb:PE X b tb) {pins:List (Addr×Obj)} {s:Shared} {σ:St} {H:Hp} {R:V->V->Hp->Prop} (I:Inv X pins σ H s)
    (h:ta σ H fun x H1=>tb σ H1 fun y H2=>R x y H2) {Q:Value->Shared->Prop} {f:Value->Value->Sem Value}
    (hf:∀ v u s2 x y H2,Inv X pins σ H2 s2->RelV x v->RelV y u->R x y H2->wpAny (model X.prog X.w) X.A (f v u) Q X.xe s2) :
    wpAny (model X.prog X.w) X.A (eval a X.env) (fun v s₁=>wpAny (model X.prog X.w) X.A (eval b X.env) (fun u s₂=>wpAny (model X.prog X.w) X.A (f v u) Q X.xe s₂) X.xe s₁) X.xe s:=by
  refine thn (ha pins s σ H _ I h) fun v s1 ⟨x,H1,I1,r1,q1⟩=>?_
  refine thn (hb pins s1 σ H1 _ I1 q1) fun u s2 ⟨y,H2,I2,r2,q2⟩=>?_
  exact hf v u s2 x y H2 I2 r1 r2 q2
theorem pe_op {op:Operator} {r:R2} (ho:OpR X (binaryOp op) r) (ha:PE X a ta) (hb:PE X b tb):PE X (.BinOp a op b pos) (tOp r ta tb):=by
 intro pins s σ H Q I h
 exact wpAny_BinOp (binT ha hb I h fun v u s2 x y H2 I2 rx ry q=>ho pins s2 σ H2 x y v u Q I2 rx ry q)
theorem pe_un {op:UnaryOp} {r:V->Hp->VK->Prop} (ho:UnR X (unaryOp op) r) (ha:PE X a ta):PE X (.UnaryOp op a pos) (tUn r ta):=by
 intro pins s σ H Q I h
 exact UnaryOp_ (thn (ha pins s σ H _ I h) fun v s1 ⟨x,H1,I1,r1,q1⟩=>ho pins s1 σ H1 x v Q I1 r1 q1)
theorem opI {f:Value->Value->Sem Value} {C:Int->Int->Prop} {g:Int->Int->Int}
    (rule:∀ (i j:Int) (t u:Tok) (s:Shared) (Q:Value->Shared->Prop) (E:Value->Shared->Prop),C i j->Q (.int (g i j) s.toks) { s with toks:=s.toks+1 }->wpAny (model X.prog X.w) X.A (f (.int i t) (.int j u)) Q E s) :
    OpR X f (rI C fun i j=>.int (g i j)):=by
  intro pins s σ H x y v u Q I rx ry h
  obtain ⟨i,j,rfl,rfl,hc,q⟩:=h
  obtain ⟨t,rfl⟩:=rx
  obtain ⟨t',rfl⟩:=ry
  exact rule i j t t' s _ _ hc ⟨.int (g i j),H,I.tok _,⟨_,rfl⟩,q⟩
theorem opI0 {f:Value->Value->Sem Value} {g:Int->Int->Int}
    (rule:∀ (i j:Int) (t u:Tok) (s:Shared) (Q:Value->Shared->Prop) (E:Value->Shared->Prop),Q (.int (g i j) s.toks) { s with toks:=s.toks+1 }->wpAny (model X.prog X.w) X.A (f (.int i t) (.int j u)) Q E s) :
    OpR X f (rI0 fun i j=>.int (g i j)):=by
  intro pins s σ H x y v u Q I rx ry h
  obtain ⟨i,j,rfl,rfl,q⟩:=h
  obtain ⟨t,rfl⟩:=rx
  obtain ⟨t',rfl⟩:=ry
  exact rule i j t t' s _ _ ⟨.int (g i j),H,I.tok _,⟨_,rfl⟩,q⟩
theorem opB0 {f:Value->Value->Sem Value} {g:Int->Int->Bool}
    (rule:∀ (i j:Int) (t u:Tok) (s:Shared) (Q:Value->Shared->Prop) (E:Value->Shared->Prop),Q (.bool (g i j)) s->wpAny (model X.prog X.w) X.A (f (.int i t) (.int j u)) Q E s) :
    OpR X f (rI0 fun i j=>.bl (g i j)):=by
  intro pins s σ H x y v u Q I rx ry h
  obtain ⟨i,j,rfl,rfl,q⟩:=h
  obtain ⟨t,rfl⟩:=rx
  obtain ⟨t',rfl⟩:=ry
  exact rule i j t t' s _ _ ⟨.bl (g i j),H,I,rfl,q⟩
def CPow (i j:Int):Prop:=0<=j/\j<=1000000/\i.natAbs<2 ^ 64
theorem zeu:OpR X (binaryOp .Add) (rI0 fun i j=>.int (i+j)):=opI0 fun _ _ _ _ _ _ _ q=>add_int q
theorem zue:OpR X (binaryOp .Sub) (rI0 fun i j=>.int (i-j)):=opI0 fun _ _ _ _ _ _ _ q=>sub_int q
theorem zcm:OpR X (binaryOp .Mod) (rI (fun _ j=>0<j) fun i j=>.int (i % j)):=opI fun i j _ _ _ _ _ hc q=>by
 have h1:(0:Int)<j:=hc
 exact mod_int' (by omega) (by rw [Int.fmod_eq_emod_of_nonneg i (by omega)]; exact q)
theorem zev:OpR X (binaryOp .Pow) (rI CPow fun i j=>.int (i ^ j.toNat)):=opI fun _ _ _ _ _ _ _ hc q=>pow_int_small hc.1 hc.2.1 hc.2.2 q
theorem unI {f:Value->Sem Value} {g:Int->Int}
    (rule:∀ (i:Int) (t:Tok) (s:Shared) (Q:Value->Shared->Prop) (E:Value->Shared->Prop),Q (.int (g i) s.toks) { s with toks:=s.toks+1 }->wpAny (model X.prog X.w) X.A (f (.int i t)) Q E s) :
    UnR X f (rU fun i=>.int (g i)):=by
  intro pins s σ H x v Q I rx h
  obtain ⟨i,rfl,q⟩:=h
  obtain ⟨t,rfl⟩:=rx
  exact rule i t s _ _ ⟨.int (g i),H,I.tok _,⟨_,rfl⟩,q⟩
theorem zlu:UnR X (unaryOp .USub) (rU fun i=>.int (-i)):=unI fun _ _ _ _ _ q=>neg_int q
end
def scal:V->V->Bool
 | .non,.non=>true | .non,.int _=>true | .int _,.non=>true | .non,.bl _=>true | .bl _,.non=>true | .non,.str _=>true | .str _,.non=>true
 | .int _,.int _=>true | .bl _,.bl _=>true | .str _,.str _=>true | .byt _,.byt _=>true
 | .int _,.str _=>true | .str _,.int _=>true | .bl _,.str _=>true | .str _,.bl _=>true
 | _,_=>false
def rEq:R2:=fun x y H Q=>scal x y=true/\Q (.bl (decide (x=y))) H
def rNe:R2:=fun x y H Q=>scal x y=true/\Q (.bl (!decide (x=y))) H
theorem zqx {i j:Int}:decide (V.int i=V.int j)=(i == j):=by
 rw [Bool.eq_iff_iff]
 simp
theorem zuf {i j:Bool}:decide (V.bl i=V.bl j)=(i == j):=by
 rw [Bool.eq_iff_iff]
 simp
theorem zqy {i j:Str}:decide (V.str i=V.str j)=(i == j):=by
 rw [Bool.eq_iff_iff]
 simp
theorem zqz {i j:Array UInt8}:decide (V.byt i=V.byt j)=(i.toList == j.toList):=by
 rw [Bool.eq_iff_iff]
 cases i
 cases j
 simp
section
variable {X:Cx} {a b c:Expr} {ta tb tc:TE} {pos:Pos}
theorem zcd {pins:List (Addr×Obj)} {σ:St} {H:Hp} {s:Shared} {Q:VK} {k k':Bool} (I:Inv X pins σ H s) (q:Q (.bl k) H) (e:k=k'):EP X pins σ Q (.bool k') s:=by
 subst e
 exact ⟨.bl k,H,I,rfl,q⟩
theorem op_eq:OpR X (compareOp .Eq) rEq:=by
 intro pins s σ H x y v u Q I rx ry h
 obtain ⟨hs,q⟩:=h
 cases x with
 | non =>
  cases rx
  cases y with
  | non=>cases ry; exact PySem.EqNone.eq_none_none (zcd I q (by simp))
  | bl j=>cases ry; exact PySem.EqNone.eq_none_bool (zcd I q (by simp))
  | int j=>obtain ⟨t',rfl⟩:=ry; exact PySem.EqNone.eq_none_int (zcd I q (by simp))
  | str j=>obtain ⟨t',rfl⟩:=ry; exact PySem.EqNone.eq_none_str (zcd I q (by simp))
  | _=>exact absurd (show false=true from hs) Bool.false_ne_true
 | bl i =>
  cases rx
  cases y with
  | non=>cases ry; exact PySem.EqNone.eq_bool_none (zcd I q (by simp))
  | bl j=>cases ry; exact eq_bool (zcd I q zuf)
  | str j=>obtain ⟨t',rfl⟩:=ry; exact PySem.EqMixed.eq_bool_str (zcd I q (by simp))
  | _=>exact absurd (show false=true from hs) Bool.false_ne_true
 | int i =>
  obtain ⟨t,rfl⟩:=rx
  cases y with
  | non=>cases ry; exact PySem.EqNone.eq_int_none (zcd I q (by simp))
  | int j=>obtain ⟨t',rfl⟩:=ry; exact eq_int (zcd I q zqx)
  | str j=>obtain ⟨t',rfl⟩:=ry; exact PySem.EqMixed.eq_int_str (zcd I q (by simp))
  | _=>exact absurd (show false=true from hs) Bool.false_ne_true
 | str i =>
  obtain ⟨t,rfl⟩:=rx
  cases y with
  | non=>cases ry; exact PySem.EqNone.eq_str_none (zcd I q (by simp))
  | bl j=>cases ry; exact PySem.EqMixed.eq_str_bool (zcd I q (by simp))
  | int j=>obtain ⟨t',rfl⟩:=ry; exact PySem.EqMixed.eq_str_int (zcd I q (by simp))
  | str j=>obtain ⟨t',rfl⟩:=ry; exact eq_str (zcd I q zqy)
  | _=>exact absurd (show false=true from hs) Bool.false_ne_true
 | byt i =>
  obtain ⟨t,rfl⟩:=rx
  cases y with
  | byt j=>obtain ⟨t',rfl⟩:=ry; exact PySem.W.eq_bytes (zcd I q zqz)
  | _=>exact absurd (show false=true from hs) Bool.false_ne_true
 | _=>cases y <;> exact absurd (show false=true from hs) Bool.false_ne_true
theorem op_ne:OpR X (compareOp .NotEq) rNe:=by
 intro pins s σ H x y v u Q I rx ry h
 obtain ⟨hs,q⟩:=h
 cases x with
 | non =>
  cases rx
  cases y with
  | non=>cases ry; exact PySem.EqNone.ne_none_none (zcd I q (by simp))
  | bl j=>cases ry; exact PySem.EqNone.ne_none_bool (zcd I q (by simp))
  | int j=>obtain ⟨t',rfl⟩:=ry; exact PySem.EqNone.ne_none_int (zcd I q (by simp))
  | str j=>obtain ⟨t',rfl⟩:=ry; exact PySem.EqNone.ne_none_str (zcd I q (by simp))
  | _=>exact absurd (show false=true from hs) Bool.false_ne_true
 | bl i =>
  cases rx
  cases y with
  | non=>cases ry; exact PySem.EqNone.ne_bool_none (zcd I q (by simp))
  | bl j=>cases ry; exact ne_bool (zcd I q (congrArg not zuf))
  | str j=>obtain ⟨t',rfl⟩:=ry; exact PySem.EqMixed.ne_bool_str (zcd I q (by simp))
  | _=>exact absurd (show false=true from hs) Bool.false_ne_true
 | int i =>
  obtain ⟨t,rfl⟩:=rx
  cases y with
  | non=>cases ry; exact PySem.EqNone.ne_int_none (zcd I q (by simp))
  | int j=>obtain ⟨t',rfl⟩:=ry; exact ne_int (zcd I q (congrArg not zqx))
  | str j=>obtain ⟨t',rfl⟩:=ry; exact PySem.EqMixed.ne_int_str (zcd I q (by simp))
  | _=>exact absurd (show false=true from hs) Bool.false_ne_true
 | str i =>
  obtain ⟨t,rfl⟩:=rx
  cases y with
  | non=>cases ry; exact PySem.EqNone.ne_str_none (zcd I q (by simp))
  | bl j=>cases ry; exact PySem.EqMixed.ne_str_bool (zcd I q (by simp))
  | int j=>obtain ⟨t',rfl⟩:=ry; exact PySem.EqMixed.ne_str_int (zcd I q (by simp))
  | str j=>obtain ⟨t',rfl⟩:=ry; exact ne_str (zcd I q (congrArg not zqy))
  | _=>exact absurd (show false=true from hs) Bool.false_ne_true
 | byt i =>
  obtain ⟨t,rfl⟩:=rx
  cases y with
  | byt j=>obtain ⟨t',rfl⟩:=ry; exact PySem.W.ne_bytes (zcd I q (congrArg not zqz))
  | _=>exact absurd (show false=true from hs) Bool.false_ne_true
 | _=>cases y <;> exact absurd (show false=true from hs) Bool.false_ne_true
theorem op_lt:OpR X (compareOp .Lt) (rI0 fun i j=>.bl (decide (i<j))):=opB0 fun _ _ _ _ _ _ _ q=>lt_int q
theorem op_le:OpR X (compareOp .LtE) (rI0 fun i j=>.bl (decide (i<=j))):=opB0 fun _ _ _ _ _ _ _ q=>le_int q
theorem op_gt:OpR X (compareOp .Gt) (rI0 fun i j=>.bl (decide (j<i))):=opB0 fun _ _ _ _ _ _ _ q=>gt_int q
theorem zxe:OpR X (compareOp .Is) (fun x y H Q=>y = .non/\Q (.bl (decide (x = .non))) H):=by
 intro pins s σ H x y v u Q I rx ry h
 obtain ⟨rfl,q⟩:=h
 cases ry
 refine is_none_gen (zcd I q ?_)
 cases x <;> first
  | (cases rx; rfl)
  | (obtain ⟨t,rfl⟩:=rx; rfl)
theorem zgm:OpR X (compareOp .IsNot) (fun x y H Q=>y = .non/\Q (.bl (!decide (x = .non))) H):=by
 intro pins s σ H x y v u Q I rx ry h
 obtain ⟨rfl,q⟩:=h
 cases ry
 refine isnot_none_gen (zcd I q ?_)
 cases x <;> first
  | (cases rx; rfl)
  | (obtain ⟨t,rfl⟩:=rx; rfl)
theorem zbc (b:Expr) {op:CmpOp} (h:op≠.In:=by decide) (h2:op≠.NotIn:=by decide):behindInMarks op b=false:=by
 have e1:(op == CmpOp.In)=false:=by cases op <;> first | rfl | exact absurd rfl h
 have e2:(op == CmpOp.NotIn)=false:=by cases op <;> first | rfl | exact absurd rfl h2
 cases b <;> simp [behindInMarks,e1,e2]
theorem zei {op:CmpOp} {r:R2} (ho:OpR X (compareOp op) r) (ha:PE X a ta) (hb:PE X b tb) (hm:behindInMarks op b=false):PE X (.Compare a [op] [b] pos) (tOp r ta tb):=by
 intro pins s σ H Q I h
 exact wpAny_Compare1 (binT ha hb I h fun v u s2 x y H2 I2 rx ry q=>ho pins s2 σ H2 x y v u Q I2 rx ry q) hm
def tTest (t:TE):TT:=fun σ H Q=>t σ H fun x H'=>∃ k,x = .bl k/\Q k H'
theorem zay {op:CmpOp} {r:R2} (ho:OpR X (compareOp op) r) (ha:PE X a ta) (hb:PE X b tb) (hm:behindInMarks op b=false):PT X (.Compare a [op] [b] pos) (tTest (tOp r ta tb)):=by
 intro pins s σ H Q I h
 refine wpAny_isTrue_Compare1 (thn (ha pins s σ H _ I h) fun v s1 ⟨x,H1,I1,r1,q1⟩=>thn (hb pins s1 σ H1 _ I1 q1) fun u s2 ⟨y,H2,I2,r2,q2⟩ =>
  thn (ho pins s2 σ H2 x y v u _ I2 r1 r2 q2) fun c s3 ⟨z,H3,I3,r3,k,e,q3⟩=>?_) hm
 subst e
 cases r3
 exact wpAny_truthy_bool ⟨H3,I3,q3⟩
def tChain (r r':R2) (ta tb tc:TE):TE:=fun σ H Q=>ta σ H fun x H1=>tb σ H1 fun y H2=>r x y H2 fun z H3=>∃ k,z = .bl k /\
 (if k=true then tc σ H3 fun w' H4=>r' y w' H4 Q else Q (.bl false) H3)
theorem zsy {op op':CmpOp} {r r':R2} (ho:OpR X (compareOp op) r) (ho':OpR X (compareOp op') r') (ha:PE X a ta) (hb:PE X b tb) (hc:PE X c tc)
    (hm:lastMarks [op,op'] [b,c] = false:=by with_unfolding_all rfl):PE X (.Compare a [op,op'] [b,c] pos) (tChain r r' ta tb tc):=by
  intro pins s σ H Q I h
  refine Compare_chain (thn (ha pins s σ H _ I h) fun v s1 ⟨x,H1,I1,r1,q1⟩=>chain_link (thn (hb pins s1 σ H1 _ I1 q1) fun u s2 ⟨y,H2,I2,r2,q2⟩ =>
    thn (ho pins s2 σ H2 x y v u _ I2 r1 r2 q2) fun d s3 ⟨z,H3,I3,r3,k,e,q3⟩=>?_)) hm
  subst e
  cases r3
  refine wpAny_truthy_bool ?_
  cases k with
  | false=>exact ite_ff ⟨.bl false,H3,I3,rfl,q3⟩
  | true=>exact ite_tt (chain_last (thn (hc pins s3 σ H3 _ I3 q3) fun w' s4 ⟨z',H4,I4,r4,q4⟩=>ho' pins s4 σ H4 y z' u w' Q I4 r2 r4 q4))
theorem zkl {op op':CmpOp} {r r':R2} (ho:OpR X (compareOp op) r) (ho':OpR X (compareOp op') r') (ha:PE X a ta) (hb:PE X b tb) (hc:PE X c tc)
    (hm:lastMarks [op,op'] [b,c] = false:=by with_unfolding_all rfl):PT X (.Compare a [op,op'] [b,c] pos) (tTest (tChain r r' ta tb tc)):=by
  intro pins s σ H Q I h
  refine isTrue_chain (thn (ha pins s σ H _ I h) fun v s1 ⟨x,H1,I1,r1,q1⟩=>test_link (thn (hb pins s1 σ H1 _ I1 q1) fun u s2 ⟨y,H2,I2,r2,q2⟩ =>
    thn (ho pins s2 σ H2 x y v u _ I2 r1 r2 q2) fun d s3 ⟨z,H3,I3,r3,k,e,q3⟩=>?_)) hm
  subst e
  cases r3
  refine wpAny_truthy_bool ?_
  cases k with
  | false =>
    obtain ⟨k',e',q'⟩:=q3
    cases e'
    exact ite_ff ⟨H3,I3,q'⟩
  | true =>
    refine ite_tt (test_last (thn (hc pins s3 σ H3 _ I3 q3) fun w' s4 ⟨z',H4,I4,r4,q4⟩=>thn (ho' pins s4 σ H4 y z' u w' _ I4 r2 r4 q4) fun d' s5 ⟨z2,H5,I5,r5,k2,e2,q5⟩=>?_))
    subst e2
    cases r5
    exact wpAny_truthy_bool ⟨H5,I5,q5⟩
def TruV (K:PySem.W.Frag) (x:V) (H:Hp) (k:Bool):Prop :=
 match x with
 | .non=>k=false
 | .bl b=>k=b
 | .int i=>k=(i != 0)
 | .str y=>y.length<=sizeLine/\k=((y.length:Int) != 0)
 | .byt y=>y.size<=sizeLine/\k=((y.size:Int) != 0)
 | .ref p=>(∃ xs,SqL K H p xs/\k = !xs.isEmpty)\/(∃ xs,SqT K H p xs/\k = !xs.isEmpty)\/∃ kvs,H p=some (.dK kvs)/\k = !kvs.isEmpty
 | _=>False
theorem zpu {κ:Type} {kvs:List (κ×V)} {vs:List (κ×Value)} (r:KV kvs vs):(!vs.isEmpty) = !kvs.isEmpty:=by
 cases r <;> rfl
theorem zkb {xs:List V} {its:List Value} (r:Vals xs its):(!its.toArray.isEmpty) = !xs.isEmpty:=by
 cases r <;> simp
theorem zkc:(sizeLine:Nat)<2 ^ 63:=by rw [sizeLine_eq]; decide
theorem zxf:TruR X (fun x H Q=>∃ k,TruV X.K x H k/\Q k H):=by
 intro pins s σ H x v Q I rx h
 obtain ⟨k,e,q⟩:=h
 have hl:=zkc
 have hs:sizeLine = 16777216:=sizeLine_eq
 cases x with
 | non =>
  cases rx
  have e':k=false:=e
  subst e'
  exact truthy_none ⟨H,I,q⟩
 | bl b =>
  cases rx
  have e':k=b:=e
  subst e'
  exact wpAny_truthy_bool ⟨H,I,q⟩
 | int i =>
  obtain ⟨t,rfl⟩:=rx
  have e':k=(i != 0):=e
  subst e'
  exact PySem.P.truthy_int ⟨H,I,q⟩
 | str y =>
  obtain ⟨t,rfl⟩:=rx
  obtain ⟨hy,e'⟩:y.length<=sizeLine/\k=((y.length:Int) != 0):=e
  subst e'
  exact PySem.P.truthy_str (by omega) ⟨H,I.tok _,q⟩
 | byt y =>
  obtain ⟨t,rfl⟩:=rx
  obtain ⟨hy,e'⟩:y.size<=sizeLine/\k=((y.size:Int) != 0):=e
  subst e'
  exact PySem.W.truthy_bytes (by omega) ⟨H,I.tok _,q⟩
 | ref p =>
  cases rx
  have e':(∃ xs,SqL X.K H p xs/\k = !xs.isEmpty)\/(∃ xs,SqT X.K H p xs/\k = !xs.isEmpty)\/∃ kvs,H p=some (.dK kvs)/\k = !kvs.isEmpty:=e
  rcases e' with ⟨xs,hx,e'⟩ | ⟨xs,hx,e'⟩ | ⟨kvs,hx,e'⟩
  ·subst e'
   obtain ⟨its,r,pl,hz⟩:=I.list hx
   have hlen:=r.length
   exact wpAny_truthy_list pl.isList (by simp only [List.size_toArray]; omega) ⟨H,I.tok _,by rw [zkb r]; exact q⟩
  ·subst e'
   obtain ⟨its,r,pl,hz⟩:=I.tuple hx
   have hlen:=r.length
   exact truthy_tuple pl (by simp only [List.size_toArray]; omega) ⟨H,I.tok _,by rw [zkb r]; exact q⟩
  ·subst e'
   obtain ⟨hz,hS,vs,r,m⟩:kvs.length<=sizeLine/\(p == sysModules)=false/\∃ vs,KV kvs vs/\s.heap.DictOf (zbf X.prog X.w) p vs:=I.hok p _ hx
   have hlen:kvs.length=vs.length:=Paired.length r
   exact wpAny_truthy_dict hS m (by omega) ⟨H,I.tok _,by rw [zpu r]; exact q⟩
 | _=>exact (show False from e).elim
theorem zsz (ha:PE X a ta) (he:∀ whole,isTrue a X.env whole=(do let v <- whole; standAt a.pos; holding [v] (truthy v))) :
    PT X a (fun σ H Q=>ta σ H fun x H'=>∃ k,TruV X.K x H' k/\Q k H'):=by
  intro pins s σ H Q I h
  exact isTrue_plain (thn (ha pins s σ H _ I h) fun v s1 ⟨x,H1,I1,r1,q1⟩=>zxf pins s1 σ H1 x v Q I1 r1 q1) (he _)
theorem vals1 {x:V} {us:List Value} (r:Vals [x] us):∃ u,us = [u]/\RelV x u:=by
 cases r with
 | cons r1 r2=>cases r2; exact ⟨_,rfl,r1⟩
theorem vals2 {x y:V} {us:List Value} (r:Vals [x,y] us):∃ u w',us = [u,w']/\RelV x u/\RelV y w':=by
 cases r with
 | cons r1 r2 =>
  cases r2 with
  | cons r3 r4=>cases r4; exact ⟨_,_,rfl,r1,r3⟩
theorem zop:CallR X (.builtin "abs") (fun xs H Q=>∃ i,xs = [.int i]/\Q (.int (if i<0 then -i else i)) H):=by
 intro pins s σ H xs us Q I r h
 obtain ⟨i,rfl,q⟩:=h
 obtain ⟨u,rfl,t,rfl⟩:=vals1 r
 exact call_abs_int fun u tk=>⟨.int (if i<0 then -i else i),H,I.tok _,⟨_,rfl⟩,q⟩
theorem zra (hc:X.calm=true):CallR X (.builtin "max") (fun xs H Q=>∃ i j,xs = [.int i,.int j]/\Q (.int (if j > i then j else i)) H):=by
 intro pins s σ H xs us Q I r h
 obtain ⟨i,j,rfl,q⟩:=h
 obtain ⟨u,w',rfl,⟨t,rfl⟩,⟨t',rfl⟩⟩:=vals2 r
 refine max_two_ints (I.ok.hd hc) fun h' tk k=>⟨_,H,I.kept k,?_,q⟩
 by_cases hj:j > i
 ·rw [if_pos hj,if_pos hj]; exact ⟨_,rfl⟩
 ·rw [if_neg hj,if_neg hj]; exact ⟨_,rfl⟩
theorem zrb (hc:X.calm=true):CallR X (.builtin "min") (fun xs H Q=>∃ i j,xs = [.int i,.int j]/\Q (.int (if j<i then j else i)) H):=by
 intro pins s σ H xs us Q I r h
 obtain ⟨i,j,rfl,q⟩:=h
 obtain ⟨u,w',rfl,⟨t,rfl⟩,⟨t',rfl⟩⟩:=vals2 r
 refine min_two_ints (I.ok.hd hc) fun h' tk k=>⟨_,H,I.kept k,?_,q⟩
 by_cases hj:j<i
 ·rw [if_pos hj,if_pos hj]; exact ⟨_,rfl⟩
 ·rw [if_neg hj,if_neg hj]; exact ⟨_,rfl⟩
end
end L2
namespace L2
open PySem PySem.Spec PyProof.Rows
structure ObjM (h:Heap) (x dx C:Addr) (mA:Str->Option Value):Prop where
 obj:h.get? x=some (PySem.W.instObj C dx)
 ns:h.Ns1 dx mA
 ne:dx≠x
theorem zrc {h:Heap} {dx:Addr} {mA:Str->Option Value} (n:h.Ns1 dx mA):∃ od,h.get? dx=some od/\∀ name,PySem.W.lookIn name od=some (mA name):=by
 obtain ⟨o,es,ep,ho,hd,hk,_,hm⟩:=n
 refine ⟨o,ho,fun name=>?_⟩
 have e:=hm name
 unfold nsFind findBy at e
 rw [<- Array.find?_toList] at e
 unfold PySem.W.lookIn
 rw [hd]
 dsimp only
 split
 ·rename_i y q
  rw [q] at e
  exact congrArg some e
 ·rename_i q
  rw [q] at e
  have a:es.toList.any (·.refKey)=false:=by
   rw [List.any_eq_false]
   intro y hy
   obtain ⟨z,t,hkey⟩:=hk y (Array.mem_toList_iff.mp hy)
   simp [DictEntry.refKey,hkey]
  have a':¬ es.toList.any (·.refKey)=true:=by rw [a]; exact Bool.false_ne_true
  rw [if_neg a']
  exact congrArg some e
theorem ObjM.look {h:Heap} {x dx C:Addr} {mA:Str->Option Value} (I:ObjM h x dx C mA):∃ od,PySem.W.InstAt h x (PySem.W.instObj C dx) C (some od)/\∀ name,PySem.W.lookIn name od=some (mA name) :=
 let ⟨od,ho,hl⟩:=zrc I.ns
 ⟨od,⟨I.obj,rfl,rfl,ho⟩,hl⟩
section
variable {prog:Program} {w:World} {A:Around} {E:Value->Shared->Prop} {s:Shared} {K:PySem.W.Frag} {x dx C f:Addr} {mA:Str->Option Value} {name:Str} {v:Value}
theorem zve {expr:Bool} {Q:Value->Shared->Prop} (X:K.In s.heap) (I:ObjM s.heap x dx C mA) (hg:PySem.W.plainGet K C name=true) (hh:PySem.W.hasDictIn K C=true)
    (ha:PySem.W.findIn K (.ref C) name=some none) (hv:mA name=some v) (hv':PySem.W.handedIn v=true) (h:Q v { s with toks:=s.toks+1 }) :
    wpAny (model prog w) A (getAttr (.ref x) name expr) Q E s:=by
  obtain ⟨od,J,hl⟩:=I.look
  exact PySem.W.get_value X J (PySem.W.plainGet_of hg).1 (PySem.W.findObj_own hh ha rfl (by rw [hl,hv])) hv' h
theorem zta {pl:Sem Bool} {Q:Value×List Value->Shared->Prop} (X:K.In s.heap) (I:ObjM s.heap x dx C mA) (hg:PySem.W.plainGet K C name=true)
    (hf:PySem.W.findIn K (.ref C) name=some (some (.ref f))) (ht:PySem.W.isFn K (.ref f)=true) (hv:mA name=none) (h:Q (.ref f,[.ref x]) s) :
    wpAny (model prog w) A (getMethod (.ref x) name pl) Q E s:=by
  obtain ⟨od,J,hl⟩:=I.look
  exact PySem.W.method_fn X J (PySem.W.plainGet_of hg).1 (PySem.W.plainGet_of hg).2 hf (beq_iff_eq.mp ht) (by show (PySem.W.lookIn name od).map (·.isSome)=some false; rw [hl,hv]; rfl) h
theorem zvf {ns:List Str} {Q:Unit->Shared->Prop} (X:K.In s.heap) (I:ObjM s.heap x dx C mA)
    (hs:PySem.W.findIn K (.ref C) "__setattr__" = some (some (.builtin "object.__setattr__"))) (hp:PySem.W.plainOver K C=true) (ht:PySem.W.takerIn K C name=some none) (hh:PySem.W.hasDictIn K C=true)
    (hw:PySem.Within mA ns) (hsz:ns.length<=sizeLine)
    (h:∀ h',ObjM h' x dx C (fun y=>if y=name then some v else mA y)->Heap.SameBut dx s.heap h'->Q () { s with heap:=h',toks:=s.toks+2 }) :
    wpAny (model prog w) A (setAttr (.ref x) name v) Q E s:=by
  obtain ⟨od,J,hl⟩:=I.look
  refine PySem.W.set_plain X J hs (PySem.W.osa_open (s:={ s with toks:=s.toks+1 }) (r:=none) X J hp ht fun b=>?_)
  obtain ⟨cd,hc,hd'⟩:=PySem.W.any_some hh
  have hx:s.heap.get? x=some ⟨.ref C,some dx,.plain,#[]⟩:=I.obj
  refine wpAny_bind (wpAny_pure (wpAny_bind (wpAny_bind (wpAny_loadPart hx (wpAny_bind (PySem.W.Looks.here (s:={ s with toks:=s.toks+1 }) (PySem.W.looks_clsIn X hc) ?_))))))
  rw [hd']
  refine wpAny_pure (a:=some dx) (wpAny_bind (wpAny_pure (wpAny_bind ?_)))
  refine wpAny_nsSet1 (s:={ s with toks:=s.toks+1 }) I.ns fun h' hn2 hs2=>?_
  obtain ⟨oD,esD,epD,hoD,hdD,hcD⟩:=hn2.count (PySem.Within.cons name v hw)
  refine wpAny_bind (wpAny_lookBehind hoD (by rw [hdD]; exact pastItsLine_dict (Nat.le_trans hcD (by rw [List.length_cons]; omega))) ?_)
  exact wpAny_pure (h _ ⟨(hs2.2 _ (Ne.symm I.ne)).trans I.obj,hn2,I.ne⟩ hs2)
theorem ztb {R:Result->Shared->Prop} {vs:List Value} {kw:List (Str×Value)} (X:K.In s.heap) (hm:PySem.W.makesIn K C=true)
    (hi:PySem.W.findIn K (.ref C) "__init__" = some (some (.ref f))) (hf:PySem.W.typeIn K (.ref f)=some (.type "function"))
    (h:codeAny (model prog w) (A.under (.builtin "type.__call__" ⟨.ref C :: vs,kw⟩)) (.call (.ref f) ⟨.ref (s.heap.objs.size+1) :: vs,kw⟩) (PySem.W.InitBack (s.heap.objs.size+1) R)
      { s with heap:=(s.heap.push PySem.W.emptyDict).push (PySem.W.instObj C s.heap.objs.size) }) :
    codeAny (model prog w) A (.call (.ref C) ⟨vs,kw⟩) R s:=by
  obtain ⟨hh,g,d,t,os⟩:=s
  exact PySem.W.make_core (PySem.W.makes_of X hm) (PySem.W.looks_findIn X hi) (fun self=>PySem.W.bind_fn X self hf) (.inl rfl) h
end
def putF (f:Str) (v:V):List (Str×V)->List (Str×V)
 | []=>[(f,v)]
 | (g,x) :: r=>if g=f then (g,v) :: r else (g,x) :: putF f v r
theorem zbb (f g:Str) (v:V):∀ fs:List (Str×V),(putF f v fs).lookup g=if g=f then some v else fs.lookup g
 | []=>by
  show List.lookup g [(f,v)] = _
  by_cases h:g=f
  ·have hb:(g == f)=true:=beq_iff_eq.mpr h
   simp only [List.lookup,hb,if_pos h]
  ·have hb:(g == f)=false:=beq_eq_false_iff_ne.mpr h
   simp only [List.lookup,hb,if_neg h]
 | (k,x) :: r=>by
  have ih:=zbb f g v r
  rw [show putF f v ((k,x) :: r)=(if k=f then (k,v) :: r else (k,x) :: putF f v r) from rfl]
  by_cases hk:k=f
  ·rw [if_pos hk]
   by_cases h:g=k
   ·have hb:(g == k)=true:=beq_iff_eq.mpr h
    simp only [List.lookup,hb,if_pos (h.trans hk)]
   ·have hb:(g == k)=false:=beq_eq_false_iff_ne.mpr h
    simp only [List.lookup,hb,if_neg (fun e:g=f=>h (e.trans hk.symm))]
  ·rw [if_neg hk]
   by_cases h:g=k
   ·have hb:(g == k)=true:=beq_iff_eq.mpr h
    simp only [List.lookup,hb,if_neg (fun e:g=f=>hk (h.symm.trans e))]
   ·have hb:(g == k)=false:=beq_eq_false_iff_ne.mpr h
    simp only [List.lookup,hb]
    exact ih
theorem ziq (f:Str) (v:V):∀ fs:List (Str×V),f∈(putF f v fs).map (·.1)/\∀ g,g∈fs.map (·.1)->g∈(putF f v fs).map (·.1)
 | []=>⟨by simp [putF],fun g h=>by simp at h⟩
 | (k,x) :: r=>by
  obtain ⟨i1,i2⟩:=ziq f v r
  rw [show putF f v ((k,x) :: r)=(if k=f then (k,v) :: r else (k,x) :: putF f v r) from rfl]
  by_cases hk:k=f
  ·rw [if_pos hk]
   subst hk
   exact ⟨by simp,fun g h=>by simpa using h⟩
  ·rw [if_neg hk]
   refine ⟨?_,fun g h=>?_⟩
   ·rw [List.map_cons]
    exact List.mem_cons_of_mem _ i1
   ·rw [List.map_cons] at h ⊢
    rcases List.mem_cons.mp h with e | e
    ·exact List.mem_cons.mpr (.inl e)
    ·exact List.mem_cons_of_mem _ (i2 g e)
theorem zir (f:Str) (v:V):∀ fs:List (Str×V),(putF f v fs).length<=fs.length+1
 | []=>by simp [putF]
 | (k,x) :: r=>by
  have ih:=zir f v r
  rw [show putF f v ((k,x) :: r)=(if k=f then (k,v) :: r else (k,x) :: putF f v r) from rfl]
  by_cases hk:k=f
  ·rw [if_pos hk,List.length_cons,List.length_cons]; omega
  ·rw [if_neg hk,List.length_cons,List.length_cons]; omega
theorem RelO.some_of {v:V} {o:Option Value} (r:RelO (some v) o):∃ u,o=some u/\RelV v u:=by
 cases o with
 | none=>exact (show False from r).elim
 | some u=>exact ⟨u,rfl,r⟩
theorem RelO.none_of {o:Option Value} (r:RelO none o):o=none:=by
 cases o with
 | none=>rfl
 | some u=>exact (show False from r).elim
theorem zrd {v:V} {u:Value} (r:RelV v u):PySem.W.handedIn u=true:=by
 cases v with
 | non=>cases (show u=Value.none from r); rfl
 | bl b=>cases (show u=Value.bool b from r); rfl
 | int i=>obtain ⟨t,e⟩:=(show ∃ t,u=Value.int i t from r); cases e; rfl
 | str x=>obtain ⟨t,e⟩:=(show ∃ t,u=Value.str x t from r); cases e; rfl
 | byt b=>obtain ⟨t,e⟩:=(show ∃ t,u=Value.bytes b t from r); cases e; rfl
 | flt b=>obtain ⟨t,e⟩:=(show ∃ t,u=Value.float b t from r); cases e; rfl
 | ref a=>cases (show u=Value.ref a from r); rfl
 | ty n=>cases (show u=Value.type n from r); rfl
section
variable {P:Program} {w:World} {H H':Hp} {h h':Heap} {a C dx:Addr} {fs fs':List (Str×V)}
theorem znn (hok:HOk P w H h) (e:H a=some (.ins C dx fs)):∃ mA,ObjM h a dx C mA/\(∀ f,RelO (fs.lookup f) (mA f))/\PySem.Within mA (fs.map (·.1))/\fs.length<=1000/\H dx=some (.own a):=by
 obtain ⟨d,z,ne,ob,mA,n,r,q⟩:=(show ObjOk P w H h a (.ins C dx fs) from hok a _ e)
 exact ⟨mA,⟨ob,n,ne⟩,r,q,z,d⟩
end
structure Cls (K:PySem.W.Frag) (C:Addr):Prop where
 pg:PySem.W.plainGet K C Str.empty=true
 hd:PySem.W.hasDictIn K C=true
 po:PySem.W.plainOver K C=true
 sa:PySem.W.findIn K (.ref C) "__setattr__" = some (some (.builtin "object.__setattr__"))
theorem Cls.get {K:PySem.W.Frag} {C:Addr} (c:Cls K C) (f:Str):PySem.W.plainGet K C f=true:=c.pg
def NoAttr (K:PySem.W.Frag) (C:Addr) (f:Str):Prop:=PySem.W.findIn K (.ref C) f=some none
theorem NoAttr.taker {K:PySem.W.Frag} {C:Addr} {f:Str} (n:NoAttr K C f):PySem.W.takerIn K C f=some none:=by
 unfold PySem.W.takerIn
 rw [show PySem.W.findIn K (.ref C) f=some none from n]
 rfl
structure Meth (K:PySem.W.Frag) (C:Addr) (m:Str) (f:Addr):Prop where
 at_:PySem.W.findIn K (.ref C) m=some (some (.ref f))
 fn:PySem.W.isFn K (.ref f)=true
 kp:PySem.W.keepIn K (.ref f)=true
section
variable {X:Cx} {pins:List (Addr×Obj)} {σ:St} {H:Hp} {s:Shared} {a C dx:Addr} {fs:List (Str×V)} {f:Str} {v:V} {A:Around} {E:Value->Shared->Prop}
theorem zpv {b:Bool} {Q:Value->Shared->Prop} (I:Inv X pins σ H s) (e:H a=some (.ins C dx fs)) (c:Cls X.K C) (n:NoAttr X.K C f) (l:fs.lookup f=some v)
    (h:∀ u s',Inv X pins σ H s'->RelV v u->Q u s'):wpAny (model X.prog X.w) A (getAttr (.ref a) f b) Q E s:=by
  obtain ⟨mA,O,r,_,_,_⟩:=znn I.hok e
  obtain ⟨u,hu,ru⟩:=RelO.some_of (v:=v) (o:=mA f) (by rw [<- l]; exact r f)
  exact zve I.kIn O (c.get f) c.hd n hu (zrd ru) (h u _ (I.tok _) ru)
theorem zkd {m:Str} {g:Addr} {pl:Sem Bool} {Q:Value×List Value->Shared->Prop} (I:Inv X pins σ H s) (e:H a=some (.ins C dx fs)) (c:Cls X.K C) (k:Meth X.K C m g) (l:fs.lookup m=none)
    (h:Q (.ref g,[.ref a]) s):wpAny (model X.prog X.w) A (getMethod (.ref a) m pl) Q E s:=by
  obtain ⟨mA,O,r,_,_,_⟩:=znn I.hok e
  have hn:mA m=none:=RelO.none_of (by rw [<- l]; exact r m)
  exact zta I.kIn O (c.get m) k.at_ k.fn hn h
theorem zpw {y:V} {u:Value} {Q:Unit->Shared->Prop} (I:Inv X pins σ H s) (e:H a=some (.ins C dx fs)) (c:Cls X.K C) (n:NoAttr X.K C f) (hl:fs.length<1000) (ry:RelV y u)
    (h:∀ s',Inv X pins σ (upd H a (.ins C dx (putF f y fs))) s'->Q () s'):wpAny (model X.prog X.w) A (setAttr (.ref a) f u) Q E s:=by
  obtain ⟨mA,O,r,wi,_,ho⟩:=znn I.hok e
  have hz:(fs.map (·.1)).length<=sizeLine:=by rw [List.length_map,sizeLine_eq]; omega
  refine zvf I.kIn O c.sa c.po n.taker c.hd wi hz fun h' O' sb=>h _ ?_
  have hd:∃ o,h'.get? dx=some o:=let ⟨o,_,_,e',_⟩:=O'.ns; ⟨o,e'⟩
  refine I.write (x:=a) (e:=dx) (by rw [e]; exact True.intro) (.inr ho) (fun b q hb z=>(sb.2 b hb).trans z) hd ?_
  refine ⟨by rw [zai O.ne]; exact ho,?_,O.ne,O'.obj,_,O'.ns,fun g=>?_,fun g hg=>?_⟩
  · have:=zir f y fs; omega
  · show RelO ((putF f y fs).lookup g) (if g=f then some u else mA g)
    rw [zbb]
    by_cases q:g=f
    · rw [if_pos q,if_pos q]; exact ry
    · rw [if_neg q,if_neg q]; exact r g
  · by_cases q:g=f
    · rw [q]; exact (ziq f y fs).1
    · refine (ziq f y fs).2 g (wi g fun z=>hg ?_)
      show (if g=f then some u else mA g)=none
      rw [if_neg q]; exact z
theorem Inv.made (I:Inv X pins σ H s):Inv X pins σ (upd (upd H s.heap.objs.size (.own (s.heap.objs.size+1))) (s.heap.objs.size+1) (.ins C s.heap.objs.size []))
    { s with heap:=(s.heap.push PySem.W.emptyDict).push (PySem.W.instObj C s.heap.objs.size) }:=by
  have e1:(s.heap.push PySem.W.emptyDict).get? s.heap.objs.size=some PySem.W.emptyDict:=Heap.get?_push_size s.heap rfl
  have e2:((s.heap.push PySem.W.emptyDict).push (PySem.W.instObj C s.heap.objs.size)).get? (s.heap.objs.size+1)=some (PySem.W.instObj C s.heap.objs.size):=by
    have:=Heap.get?_push_size (s.heap.push PySem.W.emptyDict) (o:=PySem.W.instObj C s.heap.objs.size) rfl
    rwa [Heap.size_push] at this
  have e3:(s.heap.push PySem.W.emptyDict).Ns s.heap.objs.size (fun _=>none):=⟨PySem.W.emptyDict,#[],_,e1,rfl,(fun e he=>absurd he (by simp)),fun _=>rfl⟩
  have I1:=I.laid (a:=s.heap.objs.size) (o:=.own (s.heap.objs.size+1)) (h':=s.heap.push PySem.W.emptyDict) (t':=s.toks) (fun b u q=>Heap.get?_push_of_some _ q) (Nat.le_refl _) ⟨_,e1⟩
  refine I1.laid (a:=s.heap.objs.size+1) (o:=.ins C s.heap.objs.size []) (t':=s.toks) (fun b u q=>Heap.get?_push_of_some _ q) (Nat.le_of_eq (Heap.size_push _ _)) ?_
  have ne:s.heap.objs.size≠s.heap.objs.size+1:=Nat.ne_of_lt (Nat.lt_succ_self _)
  refine ⟨by rw [zai ne,zac],Nat.zero_le _,ne,e2,fun _=>none,(Heap.Ns1.of_empty e3).at fun o q=>Heap.get?_push_of_some _ q,fun _=>True.intro,fun y hy=>absurd rfl hy⟩
theorem zvg {prog:Program} {w:World} {env:Env} {e:Expr} {f:Str} {pos:Pos} {s:Shared} {Q:Value->Shared->Prop} (hb:attributeBase e f env (eval e env)=eval e env)
    (h:wpAny (model prog w) A (eval e env) (fun o s₁=>wpAny (model prog w) A (getAttr o f true) Q E s₁) E s):wpAny (model prog w) A (eval (.Attribute e f pos) env) Q E s :=
  Attribute_any_ h (by rw [arm_eval_Attribute,hb])
end
def tFld (K:PySem.W.Frag) (ta:TE) (f:Str):TE:=fun σ H Q=>ta σ H fun x H1=>∃ a C dx fs v,x = .ref a/\H1 a=some (.ins C dx fs)/\Cls K C/\NoAttr K C f/\fs.lookup f=some v/\Q v H1
def sFld (K:PySem.W.Frag) (ta tv:TE) (f:Str):TS:=fun D σ H=>tv σ H fun y H1=>ta σ H1 fun x H2=>∃ a C dx fs,x = .ref a/\H2 a=some (.ins C dx fs)/\Cls K C/\NoAttr K C f/\fs.length<1000 /\
 D.nx σ (upd H2 a (.ins C dx (putF f y fs)))
section
variable {X:Cx} {o e value:Expr} {f:Str} {pos pos' tpos:Pos} {ta tv:TE}
theorem zbe (he:PE X e ta) (hb:attributeBase e f X.env (eval e X.env)=eval e X.env):PE X (.Attribute e f pos) (tFld X.K ta f):=by
 intro pins s σ H Q I h
 refine zvg hb (thn (he pins s σ H _ I h) fun u s1 ⟨x,H1,I1,rx,a,C,dx,fs,v,ex,ea,c,n,l,q⟩=>?_)
 subst ex
 obtain rfl:u=Value.ref a:=rx
 exact zpv I1 ea c n l fun u' s2 I2 ru=>⟨v,H1,I2,ru,q⟩
theorem zcf (ha:PE X o ta) (hv:PE X value tv) (hs:swapsWith value (some (.Attribute o f pos')) pos.line X.env=pure false):PS X (.Assign [.Attribute o f pos'] value pos) (sFld X.K ta tv f):=by
 intro pins s σ H D I h
 refine plainObj_wpAny_Assign_Attribute (thn (hv pins s σ H _ I h) fun u s1 ⟨y,H1,I1,ry,q⟩=>thn (ha pins s1 σ H1 _ I1 q) fun ov s2 ⟨x,H2,I2,rx,a,C,dx,fs,ex,ea,c,n,l,q2⟩=>?_) hs
 subst ex
 obtain rfl:ov=Value.ref a:=rx
 exact zpw I2 ea c n l ry fun s3 I3=>⟨σ,_,I3,q2⟩
end
section
variable {X:Cx} {pins:List (Addr×Obj)} {σ:St} {H:Hp} {s:Shared} {A:Around} {E:Value->Shared->Prop} {Q:Value->Shared->Prop} {c:Value} {b:Bool}
end
end L2
namespace L2
open PySem PySem.Spec PyProof.Rows
structure Room (k:Nat) (A:Around):Prop where
 hd:A.handled=none
 dp:A.depth+3*k+5<recursionLimit
 un:A.units+16*k+200<cLine
theorem Room.mono {j k:Nat} {A:Around} (r:Room k A) (h:j<=k):Room j A:=⟨r.hd,by have:=r.dp; omega,by have:=r.un; omega⟩
theorem Room.deeper {k:Nat} {A:Around} (r:Room (k+1) A) (env:Env):Room k (A.deeper env) :=
 ⟨r.hd,by have:=r.dp; show A.depth+1+3*k+5 < _; omega,by have:=r.un; show A.units+3+16*k+200 < _; omega⟩
theorem zpx {A:Around} {C:Addr} {us:List Value} {kw:List (Str×Value)}:(A.under (.builtin "type.__call__" ⟨.ref C :: us,kw⟩)).depth=A.depth+1:=by
 first | rfl | simp [Around.under,Code.weight,Code.isCreation,Code.isGuard,Code.isCaller,Code.frames,Code.isFrame,guardIds]
theorem zpy {A:Around} {C:Addr} {us:List Value} {kw:List (Str×Value)}:(A.under (.builtin "type.__call__" ⟨.ref C :: us,kw⟩)).units=A.units+1:=by
 first | rfl | simp [Around.under,Code.cUnits,Code.frames,Code.isFrame]
theorem Room.make {k:Nat} {A:Around} (r:Room (k+1) A) (C:Addr) (us:List Value) (kw:List (Str×Value)):Room k (A.under (.builtin "type.__call__" ⟨.ref C :: us,kw⟩)) :=
 ⟨r.hd,by have:=r.dp; rw [zpx]; omega,by have:=r.un; rw [zpy]; omega⟩
theorem Room.depth {k:Nat} {A:Around} (r:Room k A):A.depth<recursionLimit:=by have:=r.dp; omega
theorem Room.units {k:Nat} {A:Around} (r:Room k A):A.units+64<cLine:=by have:=r.un; omega
def tNil:TA:=fun _ H Q=>Q [] H
def tCons (ta:TE) (tr:TA):TA:=fun σ H Q=>ta σ H fun x H1=>tr σ H1 fun xs H2=>Q (x :: xs) H2
section
variable {X:Cx} {e:Expr} {es:List Expr} {te:TE} {t:TA} {pos:Pos}
theorem zag:PA X [] tNil:=fun _ _ _ _ H Q I h=>Calls.spliced_nil ⟨[],H,I,.nil,h⟩
theorem zaa (ha:PE X e te) (hr:PA X es t) (hs:starEach (e :: es) X.env=(false,eval e X.env) :: starEach es X.env:=by rfl):PA X (e :: es) (tCons te t):=by
 intro pos pins s σ H Q I h
 rw [hs]
 show wpAny _ _ (spliced ((false,eval e X.env) :: backTo pos (starEach es X.env))) _ _ s
 refine Calls.spliced_cons (thn (ha pins s σ H _ I h) fun u s1 ⟨x,H1,I1,r1,q1⟩=>?_)
 exact thn (hr pos pins s1 σ H1 _ I1 q1) fun us s2 ⟨xs,H2,I2,r2,q2⟩=>⟨x :: xs,H2,I2,.cons r1 r2,q2⟩
def tTup (t:TA):TE:=fun σ H Q=>t σ H fun xs H1=>xs.length<=sizeLine/\∀ p,H1 p=none->Q (.ref p) (upd H1 p (.tup xs))
def tLst (t:TA):TE:=fun σ H Q=>t σ H fun xs H1=>xs.length<=sizeLine/\∀ p,H1 p=none->Q (.ref p) (upd H1 p (.lst xs))
theorem zgi {x1} (h:PA X es t):PE X (.Tuple es x1 pos) (tTup t):=by
 intro pins s σ H Q I hq
 refine wpAny_Tuple_spliced (thn (h pos pins s σ H _ I hq) fun us s1 ⟨xs,H1,I1,r,z,q⟩=>⟨by rw [<- r.length]; exact z,?_⟩)
 have hf:H1 s1.heap.objs.size=none:=I1.hok.fresh (Nat.le_refl _)
 refine ⟨.ref s1.heap.objs.size,upd H1 s1.heap.objs.size (.tup xs),I1.laid (t':=s1.toks) (fun b u e=>Heap.get?_push_of_some _ e) (Nat.le_refl _) ?_,rfl,q _ hf⟩
 exact ⟨z,us,r,⟨_,Heap.get?_push_size _ rfl,rfl,_,rfl⟩⟩
theorem zdy (h:PA X es t):PE X (.List es pos) (tLst t):=by
 intro pins s σ H Q I hq
 refine wpAny_List_spliced (thn (h pos pins s σ H _ I hq) fun us s1 ⟨xs,H1,I1,r,z,q⟩=>⟨by rw [<- r.length]; exact z,?_⟩)
 have hf:H1 s1.heap.objs.size=none:=I1.hok.fresh (Nat.le_refl _)
 refine ⟨.ref s1.heap.objs.size,upd H1 s1.heap.objs.size (.lst xs),I1.laid (t':=s1.toks) (fun b u e=>Heap.get?_push_of_some _ e) (Nat.le_refl _) ?_,rfl,q _ hf⟩
 exact ⟨z,us,0,r,Heap.get?_push_size _ rfl⟩
end
abbrev Sp:=List V->Hp->VK->XK->Prop
abbrev CXT:=List Env->Hp->Shared->XK->Value->Shared->Prop
structure Env0 (P:Program) (w:World) (K:PySem.W.Frag) (mg:Str->Option Value) (base:Heap) (A:Around) (outer:List Env) (s:Shared) (H:Hp):Prop where
 frames:A.frames=some outer
 mod:Mod K mg base
 bs:∀ b o,base.get? b=some o->s.heap.get? b=some o/\H b=none
 bsz:base.objs.size<=s.heap.objs.size
 funs:s.heap.FunFrames base outer
 frf:∀ b∈frs outer,H b=none
 hok:HOk P w H s.heap
 bare:AllBare s.gens
def CE (outer:List Env) (P:Program) (w:World) (H:Hp) (s:Shared) (Q:VK) (u:Value) (s':Shared):Prop :=
 ∃ v H',s'.os=s.os/\AllBare s'.gens/\Un (frs outer) [] H H' s.heap s'.heap/\HOk P w H' s'.heap/\RelV v u/\Q v H'
def CR (CX:CXT) (outer:List Env) (P:Program) (w:World) (H:Hp) (s:Shared) (Q:VK) (E:XK) (r:Result) (s':Shared):Prop :=
 match r with
 | .ok (.ret u)=>CE outer P w H s Q u s'
 | .ok _=>False
 | .error e=>CX outer H s E e s'
structure FnOk (P:Program) (w:World) (K:PySem.W.Frag) (mg:Str->Option Value) (base:Heap) (CX:CXT) (k:Nat) (f:Addr) (fd:FuncData) (ps:List Str) (sp:Sp):Prop where
 len:∀ vs H Q E,sp vs H Q E->vs.length=ps.length
 run:∀ (A:Around) (outer:List Env) (s:Shared) (H:Hp) (args:Args) (us:List Value) (vs:List V) (Q:VK) (E:XK),Room k A->Env0 P w K mg base A outer s H->BindsTo s fd args (ps.zip us)->Vals vs us->sp vs H Q E ->
  codeAny (model P w) A (.call (.ref f) args) (CR CX outer P w H s Q E) s
theorem Env0.make {P:Program} {w:World} {K:PySem.W.Frag} {mg:Str->Option Value} {base:Heap} {A:Around} {outer:List Env} {s:Shared} {H:Hp} (e:Env0 P w K mg base A outer s H) (C:Addr) (us:List Value) (kw:List (Str×Value)) :
    Env0 P w K mg base (A.under (.builtin "type.__call__" ⟨.ref C :: us,kw⟩)) outer s H:=⟨by first | exact e.frames | (simpa [Around.under,Code.envs,Code.isFrame,pushEnvs] using e.frames),e.mod,e.bs,e.bsz,e.funs,e.frf,e.hok,e.bare⟩
section
variable {X:Cx} {pins:List (Addr×Obj)} {σ:St} {H:Hp} {s s':Shared}
theorem Inv.env0 (I:Inv X pins σ H s):Env0 X.prog X.w X.K X.mg X.base X.A X.stack s H :=
 ⟨I.ok.frames,I.ok.mod,I.bs,Nat.le_trans I.ok.bsz I.sz,I.stack,I.stkFree,I.hok,I.bare⟩
theorem Inv.after {Q:VK} {u:Value} (I:Inv X pins σ H s) (h:CE X.stack X.prog X.w H s Q u s'):EP X pins σ Q u s':=by
 obtain ⟨v,H',os,bare,un,hok,r,q⟩:=h
 obtain ⟨hh,g,d,t,os'⟩:=s'
 obtain rfl:os'=s.os:=os
 exact ⟨v,H',I.call (h':=hh) (g':=g) (d':=d) (t':=t) (ch:=[]) un hok bare (fun b z=>absurd z (by simp)),r,q⟩
end
def tCall (sp:Sp) (dvs:List V) (E:XK) (t:TA):TE:=fun σ H Q=>t σ H fun vs H1=>sp (vs++dvs) H1 Q E
def Binds (K:PySem.W.Frag) (fd:FuncData) (ps:List Str) (ds:List Value):Prop :=
 ∀ (s:Shared) (us:List Value),K.In s.heap->(us++ds).length=ps.length->BindsTo s fd ⟨us,[]⟩ (ps.zip (us++ds))
theorem Binds.all {K:PySem.W.Frag} {fd:FuncData} {ps:List Str} (h:∀ us:List Value,us.length=ps.length->bindArgs fd ⟨us,[]⟩ = pure (ps.zip us)):Binds K fd ps []:=fun s us _ hl=>by
 rw [List.append_nil] at hl ⊢
 exact .of_eq (h us hl)
section
variable {X:Cx} {CX:CXT} {k:Nat} {f C:Addr} {fd:FuncData} {ps:List Str} {sp:Sp} {dvs:List V} {ds:List Value} {E:XK} {x m:Str} {p pos apos:Pos} {e o:Expr} {es:List Expr} {ta:TE} {t:TA}
structure Mk (K:PySem.W.Frag) (C f:Addr):Prop where
 makes:PySem.W.makesIn K C=true
 init:PySem.W.findIn K (.ref C) "__init__" = some (some (.ref f))
 fn:PySem.W.isFn K (.ref f)=true
 kp:PySem.W.keepIn K (.ref C)=true
end
section
variable {X:Cx} {CX:CXT} {k:Nat} {f C:Addr} {fd:FuncData} {ps ks:List Str} {sp:Sp} {E:XK} {x m:Str} {p pos apos kpos:Pos} {e o:Expr} {es:List Expr} {kws:List Keyword} {te ta:TE} {t tk:TA} {nm:Option Str}
variable {g:List Value->List Value->List Value} {gV:List V->List V->List V}
end
structure FnScope (N P:List Str) (sc:Scope):Prop where
 kind:sc.kind = .function
 co:sc.isCoroutine=false
 gen:sc.isGenerator=false
 nd:N.Nodup
 pre:N.take P.length=P
 par:∀ x∈P,sc.names.lookup x=some .local\/sc.names.lookup x=some .cell
 nofree:∀ y∈sc.names,y.2≠.free
theorem zlv {kindOf:Str->Option NameKind} {x:Str}:∀ {binds:List (Str×Value)} {m:Str->Option Value},(∀ v,(x,v) ∉ binds)->bindL kindOf binds m x=m x
 | [],_,_=>rfl
 | (n,v) :: r,m,h=>by
  unfold bindL
  rw [zlv fun w hw=>h w (List.mem_cons_of_mem _ hw)]
  split
  ·have:x≠n:=by rintro rfl; exact h v List.mem_cons_self
   simp [this]
  ·rfl
theorem zlw {kindOf:Str->Option NameKind} {x:Str}:∀ {binds:List (Str×Value)} {m:Str->Option Value},(∀ v,(x,v) ∉ binds)->bindC kindOf binds m x=m x
 | [],_,_=>rfl
 | (n,v) :: r,m,h=>by
  unfold bindC
  rw [zlw fun w hw=>h w (List.mem_cons_of_mem _ hw)]
  split
  ·rfl
  ·have:x≠n:=by rintro rfl; exact h v List.mem_cons_self
   simp [this]
theorem zlx {kindOf:Str->Option NameKind} {x:Str} {v:Value}:∀ {P:List Str} {vs:List Value} {i:Nat} {m:Str->Option Value},P.Nodup->P[i]? = some x->vs[i]? = some v->kindOf x=some .local ->
    bindL kindOf (P.zip vs) m x=some v
  | [],_,_,_,_,h,_,_=>by simp at h
  | _ :: _,[],_,_,_,_,h,_=>by simp at h
  | p :: P,w :: vs,0,m,nd,h1,h2,hk=>by
    simp at h1 h2; subst h1; subst h2
    show bindL kindOf ((p,w) :: P.zip vs) m p = _
    unfold bindL
    rw [zlv fun v hv=>(List.nodup_cons.mp nd).1 (List.of_mem_zip hv).1,if_pos hk]
    simp
  | p :: P,w :: vs,i+1,m,nd,h1,h2,hk=>by
    show bindL kindOf ((p,w) :: P.zip vs) m x = _
    unfold bindL
    exact zlx (i:=i) (List.nodup_cons.mp nd).2 (by simpa using h1) (by simpa using h2) hk
theorem zly {kindOf:Str->Option NameKind} {x:Str} {v:Value}:∀ {P:List Str} {vs:List Value} {i:Nat} {m:Str->Option Value},P.Nodup->P[i]? = some x->vs[i]? = some v->kindOf x≠some .local ->
    bindC kindOf (P.zip vs) m x=some v
  | [],_,_,_,_,h,_,_=>by simp at h
  | _ :: _,[],_,_,_,_,h,_=>by simp at h
  | p :: P,w :: vs,0,m,nd,h1,h2,hk=>by
    simp at h1 h2; subst h1; subst h2
    show bindC kindOf ((p,w) :: P.zip vs) m p = _
    unfold bindC
    rw [zlw fun v hv=>(List.nodup_cons.mp nd).1 (List.of_mem_zip hv).1,if_neg hk]
    simp
  | p :: P,w :: vs,i+1,m,nd,h1,h2,hk=>by
    show bindC kindOf ((p,w) :: P.zip vs) m x = _
    unfold bindC
    exact zly (i:=i) (List.nodup_cons.mp nd).2 (by simpa using h1) (by simpa using h2) hk
def start (N:List Str) (vs:List V):St:=vs.map some++List.replicate (N.length-vs.length) none
def cxOf (CX:CXT) (P:Program) (w:World) (K:PySem.W.Frag) (mg:Str->Option Value) (base:Heap) (N:List Str) (qual:Str) (scope:Scope) (f:Addr) (cd:Value) (A:Around) (outer:List Env) (s:Shared) (H:Hp) (E:XK):Cx where
 prog:=P
 w:=w
 K:=K
 mg:=mg
 base:=base
 A:=A.deeper (envOfC qual scope s.heap.objs.size f cd)
 N:=N
 s₀:=s
 H₀:=H
 env:=envOfC qual scope s.heap.objs.size f cd
 outer:=outer
 stack:=envOfC qual scope s.heap.objs.size f cd :: outer
 ex:=[]
 calm:=true
 fn:=fun _=>true
 pn:=[]
 xe:=fun e s'=>wpAny (model P w) (A.deeper (envOfC qual scope s.heap.objs.size f cd)) (leaving (envOfC qual scope s.heap.objs.size f cd) e) (fun _ s''=>CX outer H s E e s'') (fun e' s''=>CX outer H s E e' s'') s'
theorem zoq {sc:Scope} {n:Nat} {x:Str} (h:sc.names.lookup x=some .cell):∃ c,(cellsFrom n sc.names []).lookup x=some c:=by
 have q:=PySem.W.cellsFrom_some sc.names n [] (.inl h)
 exact Option.isSome_iff_exists.mp q
theorem zre {CX:CXT} {P:Program} {w:World} {K:PySem.W.Frag} {mg:Str->Option Value} {base:Heap} {N ps:List Str} {qual:Str} {scope:Scope} {f:Addr} {cd:Value} {A:Around} {outer:List Env} {s s1:Shared} {H:Hp} {E:XK} {us:List Value} {vs:List V}
    (S:FnScope N ps scope) (hd:A.handled=none) (e0:Env0 P w K mg base A outer s H) (hl:vs.length=ps.length) (r:Vals vs us)
    (x:InCallC s s.heap.objs.size (bindL (envOfC qual scope s.heap.objs.size f cd).kindOf (ps.zip us) fun _=>none) (cellsFrom (s.heap.objs.size+1) scope.names []) (bindC (envOfC qual scope s.heap.objs.size f cd).kindOf (ps.zip us) fun _=>none) s1) :
    Inv (cxOf CX P w K mg base N qual scope f cd A outer s H E) [] (start N vs) H s1:=by
  have hpl:ps.length<=N.length:=by have:=congrArg List.length S.pre; rw [List.length_take] at this; omega
  obtain ⟨h1,tk,rfl,hk⟩:=x.done
  have noA:∀ b:Addr,b ∉ (cxOf CX P w K mg base N qual scope f cd A outer s H E).ex:=fun b z=>absurd (show b∈([]:List Addr) from z) (by simp)
  refine ⟨⟨e0.mod,S.kind,rfl,rfl,Nat.le_refl _,fun y z c h1 h2=>?_,fun y hy=>?_,fun y c _ h=>?_,fun _=>hd,Around.frames_deeper e0.frames,.inr ⟨rfl,rfl⟩,fun b z=>absurd z (noA b),e0.bs,e0.bsz,fun b _ _=>noA b,fun b z=>absurd z (noA b),e0.funs,e0.frf⟩,
    rfl,e0.bare,Un.kept hk,⟨_,x.toInCall.ns,fun i y v h1 h2 h3=>?_⟩,fun y c h=>⟨_,x.cell y c h⟩,e0.hok.fresh (Nat.le_refl _),fun y c h=>?_,fun p hp=>absurd (show p∈([]:List (Addr×Obj)) from hp) (by simp),e0.hok.kept hk,?_⟩
  · exact name_of_addr x.apart (PySem.mem_of_lookup h1) (PySem.mem_of_lookup h2)
  · have hy:scope.names.lookup y=some .cell\/scope.names.lookup y=some .free:=hy
    rcases hy with hy | hy
    · exact zoq hy
    · exact absurd rfl (S.nofree _ (PySem.mem_of_lookup hy))
  · exact Nat.le_of_lt (x.above y c (PySem.mem_of_lookup h))
  · have hi:i<vs.length:=by
      unfold start at h2
      by_cases hi:i<vs.length
      · exact hi
      · rw [List.getElem?_append_right (by simpa using hi)] at h2
        rw [List.getElem?_replicate] at h2
        split at h2 <;> cases h2
    have ha:vs[i]? = some v:=by
      unfold start at h2
      rw [List.getElem?_append_left (by simpa using hi),List.getElem?_map] at h2
      cases e:vs[i]? with
      | none=>rw [e] at h2; cases h2
      | some a=>rw [e] at h2; cases h2; rfl
    obtain ⟨u,hu,rv⟩:=r.get ha
    have hp:ps[i]? = some y:=by
      rw [<- S.pre,List.getElem?_take_of_lt (by omega)]; exact h1
    have ndP:ps.Nodup:=by rw [<- S.pre]; exact S.nd.sublist (List.take_sublist _ _)
    refine ⟨u,rv,?_⟩
    rcases S.par y (List.mem_of_getElem? hp) with k | k
    · exact .inl ⟨k,zlx ndP hp hu k⟩
    · obtain ⟨c,e⟩:=zoq (n:=s.heap.objs.size+1) k
      refine .inr ⟨.inl k,c,e,?_⟩
      have q:=x.cell y c e
      rw [zly ndP hp hu (by show scope.names.lookup y≠_; rw [k]; decide)] at q
      exact q
  · exact e0.hok.fresh (Nat.le_of_lt (x.above y c (PySem.mem_of_lookup h)))
  · unfold start
    show _=N.length
    rw [List.length_append,List.length_map,List.length_replicate]
    omega
theorem fn_of {CX:CXT} {P:Program} {w:World} {K:PySem.W.Frag} {mg:Str->Option Value} {base:Heap} {k:Nat} {f:Addr} {name qual:Str} {params:Arguments} {body:List Stmt} {scope:Scope} {dV kV doc pm cdv ct oc:Value} {an od:Option Addr}
    {osl:Array (Option Value)} {N ps:List Str} {sp:Sp} (lk:K.lookup f=some ⟨oc,od,.func (PySem.W.fnOf name qual params body scope dV kV doc pm an cdv ct),osl⟩) (hcd:PySem.W.codeIn K cdv qual=true) (S:FnScope N ps scope)
    (len:∀ vs H Q E,sp vs H Q E->vs.length=ps.length)
    (hbody:∀ (A:Around) (outer:List Env) (s:Shared) (H:Hp) (vs:List V) (Q:VK) (E:XK),Room k (A.deeper (envOfC qual scope s.heap.objs.size f cdv))->sp vs H Q E ->
      ∃ t,PSs (cxOf CX P w K mg base N qual scope f cdv A outer s H E) body t/\t { nx:=fun _ H'=>Q .non H',rt:=Q } (start N vs) H) :
    FnOk P w K mg base CX (k+1) f (PySem.W.fnOf name qual params body scope dV kV doc pm an cdv ct) ps sp:=by
  refine ⟨len,fun A outer s H args us vs Q E hr e0 hb r hsp=>?_⟩
  have hl:=len _ _ _ _ hsp
  have KX:K.In s.heap:=e0.mod.kin.keeps fun b o e=>(e0.bs b o e).1
  have lim:s.heap.NoLimit:=e0.mod.nolimit.keeps fun b o e=>(e0.bs b o e).1
  have hkind:∀ y∈ps.zip us,scope.names.lookup y.1=some .local\/(scope.names.lookup y.1=some .cell/\((cellsFrom (s.heap.objs.size+1) scope.names []).lookup y.1).isSome=true):=fun ⟨n,v⟩ hy=>by
    rcases S.par n (List.of_mem_zip hy).1 with q | q
    · exact .inl q
    · exact .inr ⟨q,PySem.W.cellsFrom_some _ _ _ (.inl q)⟩
  refine codeAny_call_function hr.depth (KX _ _ lk) rfl S.co S.gen rfl (PySem.W.codeRec_of KX hcd) (hb _ _ _ _ ?_)
  refine wpAny_newFunctionEnv_cells S.kind hkind fun env he s1 x=>?_
  subst he
  refine ⟨lim.keeps x.toInCall.keep,codeAny_func ?_⟩
  obtain ⟨t,ht,hq⟩:=hbody A outer s H vs Q E (hr.deeper _) hsp
  have I:Inv (cxOf CX P w K mg base N qual scope f cdv A outer s H E) [] (start N vs) H s1:=zre S hr.hd e0 hl r x
  refine wpAny_mono (ht [] s1 (start N vs) H _ I hq) (fun fl s' hs=>?_) fun e s' hs=>hs
  have fin:∀ {σ':St} {H':Hp} {v:V} {u:Value},Inv (cxOf CX P w K mg base N qual scope f cdv A outer s H E) [] σ' H' s'->RelV v u->Q v H'->CE outer P w H s Q u s' :=
    fun {σ' H' v u} J rv q=>⟨v,H',J.os,J.bare,J.base,J.hok,rv,q⟩
  cases fl with
  | ret u =>
    obtain ⟨v,σ',H',J,rv,q⟩:=hs
    exact fin J rv q
  | next =>
    obtain ⟨σ',H',J,q⟩:=hs
    exact fin (v:=V.non) (u:=Value.none) J rfl q
  | brk =>
    obtain ⟨_,_,_,q⟩:=hs
    exact False.elim q
  | cont =>
    obtain ⟨_,_,_,q⟩:=hs
    exact False.elim q
end L2
namespace L2
open PySem PySem.Spec PyProof.Rows
section
variable {X:Cx} {x:Str} {p pos:Pos} {e:Expr} {es:List Expr} {t:TA} {id T:String} {r:List V->Hp->VK->Prop}
def tCB (r:List V->Hp->VK->Prop) (t:TA):TE:=fun σ H Q=>t σ H fun vs H1=>r vs H1 Q
theorem zck (hc:CallR X (.builtin id) r) (hg:Gl X x) (hm:X.mg x=none) (hv:bootBuiltins x=some (.builtin id)) (ha:PA X (e :: es) t) (hn:x ≠ "__name__" := by decide) (hdb:(x == ("__debug__" : Str))=false:=by decide)
    (he:starEach (e :: es) X.env=(false,eval e X.env) :: starEach es X.env:=by rfl) (hpl:(backTo pos (starEach es X.env)).any (·.1)=false:=by rfl):PE X (.Call (.Name x p) (e :: es) [] pos) (tCB r t):=by
  intro pins s σ H Q I h
  refine wpAny_Call_Name_kw (zlq I hg hm hv ?_ hn hdb)
  exact PyProof.Rows.callWith_builtin1 (thn (ha pos pins s σ H _ I h) fun us s1 ⟨vs,H1,I1,r1,q1⟩=>hc pins s1 σ H1 vs us Q I1 r1 q1) he hpl
theorem zlz (hc:CallR X (.type T) r) (hg:Gl X x) (hm:X.mg x=none) (hv:bootBuiltins x=some (.type T)) (ha:PA X (e :: es) t) (hn:x ≠ "__name__" := by decide) (hdb:(x == ("__debug__" : Str))=false:=by decide)
    (he:starEach (e :: es) X.env=(false,eval e X.env) :: starEach es X.env:=by rfl) (hpl:(backTo pos (starEach es X.env)).any (·.1)=false:=by rfl):PE X (.Call (.Name x p) (e :: es) [] pos) (tCB r t):=by
  intro pins s σ H Q I h
  refine wpAny_Call_Name_kw (zlq I hg hm hv ?_ hn hdb)
  exact PyProof.Rows.callWith_type1 (thn (ha pos pins s σ H _ I h) fun us s1 ⟨vs,H1,I1,r1,q1⟩=>hc pins s1 σ H1 vs us Q I1 r1 q1) he hpl
end
end L2
namespace HT
open PySem PyProof.Rows
section
open PySem.SeqAt
open PySem.AutoSeq1 (wpAny_loadPart')
open PySem.MeetsSeq PySem.MeetsSeq2 PySem.MeetsSeq3
end
section
variable {prog:Program} {w:World} {A:Around} {E:Value->Shared->Prop} {s:Shared}
def sIx (n d:Nat):Option Int->Nat
 | none=>d
 | some v=>if v<0 then (v+(n:Int)).toNat else min v.toNat n
theorem sIx_none (n d:Nat):sIx n d none=d:=rfl
theorem sIx_nat (n d k:Nat):sIx n d (some (k:Int))=min k n:=by
 show (if (k:Int)<0 then ((k:Int)+(n:Int)).toNat else min (k:Int).toNat n)=min k n
 rw [if_neg (by omega),Int.toNat_natCast]
end
end HT
namespace L2
open PySem PySem.Spec PyProof.Rows
abbrev TO:=St->Hp->(Option Int->Hp->Prop)->Prop
def PO (X:Cx) (e:Option Expr) (t:TO):Prop :=
 ∀ (pins:List (Addr×Obj)) (s:Shared) (σ:St) (H:Hp) (Q:Option Int->Hp->Prop),Inv X pins σ H s->t σ H Q ->
  wpAny (model X.prog X.w) X.A (evalPart e X.env) (fun u s'=>∃ o H',Inv X pins σ H' s'/\IsPart u o/\Q o H') X.xe s
def tNoPart:TO:=fun _ H Q=>Q none H
def tPart (t:TE):TO:=fun σ H Q=>t σ H fun x H1=>∃ i,x = .int i/\Q (some i) H1
theorem zpz {ns:List Int}:∀ {us:List Value},Vals (ns.map V.int) us->IntsAre us ns:=by
 induction ns with
 | nil=>intro us r; rw [List.map_nil] at r; cases r; exact .nil
 | cons n ns ih =>
  intro us r
  rw [List.map_cons] at r
  cases r with
  | cons r1 r2 =>
   obtain ⟨t,e⟩:=r1
   subst e
   exact .cons n t (ih r2)
section
variable {X:Cx} {e:Expr} {te:TE} {lo hi:Option Expr} {tl th:TO} {pos p2:Pos}
theorem zno:PO X none tNoPart:=by
 intro pins s σ H Q I h
 rw [evalPart_none]
 exact wpAny_pure ⟨none,H,I,.none,h⟩
theorem zis (h:PE X e te):PO X (some e) (tPart te):=by
 intro pins s σ H Q I hw
 rw [evalPart_some]
 refine thn (h pins s σ H _ I hw) fun u s1 ⟨x,H1,I1,r1,q1⟩=>?_
 obtain ⟨i,rfl,q⟩:=q1
 obtain ⟨t,rfl⟩:=r1
 exact ⟨some i,H1,I1,.int i t,q⟩
def SlR (X:Cx) (r:V->Option Int->Option Int->Hp->VK->Prop):Prop :=
 ∀ (pins:List (Addr×Obj)) (s:Shared) (σ:St) (H:Hp) (x:V) (v vl vu:Value) (lo hi:Option Int) (sl:Addr) (Q:VK),Inv X pins σ H s->RelV x v->s.heap.IsSliceOf sl vl vu .none->IsPart vl lo->IsPart vu hi->r x lo hi H Q ->
  ∃ T id,typeLookup (.type T) "__getitem__" = pure (some (.builtin id))/\s.TypeIs v T/\wpAny (model X.prog X.w) X.A (getItem v (.ref sl)) (EP X pins σ Q) X.xe s
def tSl (r:V->Option Int->Option Int->Hp->VK->Prop) (te:TE) (tl th:TO):TE:=fun σ H Q=>te σ H fun x H1=>tl σ H1 fun l H2=>th σ H2 fun u H3=>r x l u H3 Q
theorem zig {r:V->Option Int->Option Int->Hp->VK->Prop} (hr:SlR X r) (he:PE X e te) (hl:PO X lo tl) (hu:PO X hi th):PE X (.Subscript e (.Slice lo hi none p2) pos) (tSl r te tl th):=by
 intro pins s σ H Q I h
 refine Subscript_ (thn (he pins s σ H _ I h) fun v s1 ⟨x,H1,I1,r1,q1⟩=>?_)
 refine wpAny_Slice (thn (hl pins s1 σ H1 _ I1 q1) fun vl s2 ⟨l,H2,I2,pl,q2⟩=>thn (hu pins s2 σ H2 _ I2 q2) fun vu s3 ⟨u,H3,I3,pu,q3⟩=>?_)
 rw [evalPart_none]
 refine wpAny_pure ?_
 have I4:Inv X pins σ H3 { s3 with heap:=s3.heap.push { cls:=.type "slice", data:=.fields #[vl,vu,.none] } }:=I3.kept (t':=s3.toks) fun b ob q=>Heap.get?_push_of_some _ q
 obtain ⟨T,id,hT,ht,hg⟩:=hr pins { s3 with heap:=s3.heap.push { cls:=.type "slice", data:=.fields #[vl,vu,.none] } } σ H3 x v vl vu l u s3.heap.objs.size Q I4 r1 (Heap.IsSliceOf.new ..) pl pu q3
 show wpAny (model X.prog X.w) X.A (subscriptTail e (.Slice lo hi none p2) v (.ref s3.heap.objs.size)) (EP X pins σ Q) X.xe { s3 with heap:=s3.heap.push { cls:=.type "slice", data:=.fields #[vl,vu,.none] } }
 exact tail_any (ops:=[.ref s3.heap.objs.size,v]) ht hT hg (by with_unfolding_all rfl)
def cutV (xs:List V) (lo hi:Option Int):List V:=(xs.drop (HT.sIx xs.length 0 lo)).take (HT.sIx xs.length xs.length hi-HT.sIx xs.length 0 lo)
theorem znp (xs:List V) (lo hi:Option Int):(cutV xs lo hi).length<=xs.length:=by
 unfold cutV
 rw [List.length_take,List.length_drop]
 omega
end
end L2
namespace L2
open PySem PySem.Spec PyProof.Rows
def ixN (n:Nat) (i:Int):Option Nat:=if 0<=i then (if i<n then some i.toNat else none) else if -(n:Int)<=i then some (i+n).toNat else none
def atI {α:Type} (xs:List α) (i:Int):Option α:=(ixN xs.length i).bind fun j=>xs[j]?
theorem zrf {n:Nat} {i:Int} {j:Nat} (h:ixN n i=some j):seqIndex? i n=some j/\j<n/\-(n:Int)<=i/\i<n:=by
 unfold ixN at h
 by_cases h0:0<=i
 ·rw [if_pos h0] at h
  by_cases h1:i<n
  ·rw [if_pos h1] at h
   have e:i.toNat=j:=Option.some.inj h
   exact ⟨by rw [seqIndex_of h0 h1,e],by omega,by omega,h1⟩
  ·rw [if_neg h1] at h; cases h
 ·rw [if_neg h0] at h
  by_cases h1:-(n:Int)<=i
  ·rw [if_pos h1] at h
   have e:(i+n).toNat=j:=Option.some.inj h
   exact ⟨by rw [seqIndex_neg (by omega) h1,e],by omega,h1,by omega⟩
  ·rw [if_neg h1] at h; cases h
theorem zrg {α:Type} {xs:List α} {i:Int} {v:α} (h:atI xs i=some v):∃ j,seqIndex? i xs.length=some j/\xs[j]? = some v/\j<xs.length/\-(xs.length:Int)<=i/\i<xs.length:=by
 unfold atI at h
 cases e:ixN xs.length i with
 | none=>rw [e] at h; cases h
 | some j =>
  rw [e] at h
  obtain ⟨h1,h2,h3,h4⟩:=zrf e
  exact ⟨j,h1,h,h2,h3,h4⟩
theorem zhi {α:Type} {xs:List α} {j:Nat} {v:α} (h:xs[j]? = some v):atI xs (j:Int)=some v:=by
 have hj:j<xs.length:=(List.getElem?_eq_some_iff.mp h).1
 have e:ixN xs.length (j:Int)=some j:=by
  unfold ixN
  rw [if_pos (by omega),if_pos (by omega)]; simp
 unfold atI; rw [e]; exact h
def zvh (b:Expr):Prop:=∀ o i,subscripted b false o i=operate [o,i] (getItem o i)
def IxR (X:Cx) (r:R2):Prop :=
 ∀ (value slice:Expr) (pins:List (Addr×Obj)) (s:Shared) (σ:St) (H:Hp) (x y:V) (v u:Value) (Q:VK),Inv X pins σ H s->RelV x v->RelV y u->r x y H Q ->
  subscripted slice false v u=operate [v,u] (getItem v u)->wpAny (model X.prog X.w) X.A (subscriptTail value slice v u) (EP X pins σ Q) X.xe s
def MtR (X:Cx) (id:String) (r:V->List V->Hp->VK->Prop):Prop :=
 ∀ (pins:List (Addr×Obj)) (s:Shared) (σ:St) (H:Hp) (x:V) (xs:List V) (v:Value) (us:List Value) (Q:VK),Inv X pins σ H s->RelV x v->Vals xs us->r x xs H Q ->
  wpAny (model X.prog X.w) X.A (call (.builtin id) (v :: us)) (EP X pins σ Q) X.xe s
section
variable {X:Cx} {a b:Expr} {ta tb:TE} {pos:Pos}
theorem pe_ix {r:R2} (hr:IxR X r) (ha:PE X a ta) (hb:PE X b tb) (hs:zvh b):PE X (.Subscript a b pos) (tOp r ta tb):=by
 intro pins s σ H Q I h
 exact Subscript_ (binT ha hb I h fun v u s2 x y H2 I2 rx ry q=>hr a b pins s2 σ H2 x y v u Q I2 rx ry q (hs _ _))
def rIxL (K:PySem.W.Frag):R2:=fun x y H Q=>∃ p xs i v,x = .ref p/\y = .int i/\SqL K H p xs/\atI xs i=some v/\Q v H
def rIxT (K:PySem.W.Frag):R2:=fun x y H Q=>∃ p xs i v,x = .ref p/\y = .int i/\SqT K H p xs/\atI xs i=some v/\Q v H
theorem zvi:IxR X (rIxL X.K):=by
 intro value slice pins s σ H x y v u Q I rx ry h hs
 obtain ⟨p,xs,i,z,rfl,rfl,hq,he,q⟩:=h
 cases rx
 obtain ⟨t,rfl⟩:=ry
 obtain ⟨its,r,pl,hz⟩:=I.list hq
 obtain ⟨j,h1,h2,h3,h4,h5⟩:=zrg he
 obtain ⟨w,ew,rw'⟩:=r.get h2
 have hl:=r.length
 have hn:=zkc
 have fin:EP X pins σ Q w s:=⟨z,H,I,rw',q⟩
 by_cases h0:0<=i
 ·have hj:i.toNat=j:=by
   rw [seqIndex_of h0 h5] at h1
   exact Option.some.inj h1
  exact item_listR pl.isList h0 (by omega) (by rw [hj]; simpa using ew) fin hs
 ·have hj:(i+(its.toArray.size:Int)).toNat=j:=by
   rw [seqIndex_neg (by omega) h4] at h1
   rw [List.size_toArray,<- hl]
   exact Option.some.inj h1
  exact subscriptTail_builtinR (x:=w) pl.isList.typeIs slot_list_getitem.lookup
   (wpAny_getItem_list_neg (Q:=fun r s'=>r=w/\EP X pins σ Q r s') pl.isList (by omega) (by rw [List.size_toArray] <;> omega) (by omega) (by rw [hj]; simpa using ew) ⟨rfl,fin⟩) hs
theorem zxg:IxR X (rIxT X.K):=by
 intro value slice pins s σ H x y v u Q I rx ry h hs
 obtain ⟨p,xs,i,z,rfl,rfl,hq,he,q⟩:=h
 cases rx
 obtain ⟨t,rfl⟩:=ry
 obtain ⟨its,r,pl,hz⟩:=I.tuple hq
 obtain ⟨j,h1,h2,h3,h4,h5⟩:=zrg he
 obtain ⟨w,ew,rw'⟩:=r.get h2
 have hl:=r.length
 have hn:=zkc
 have fin:EP X pins σ Q w s:=⟨z,H,I,rw',q⟩
 exact subscriptTail_builtinR (x:=w) pl.typeIs slot_tuple_getitem.lookup
  (getItem_tuple (j:=j) (Q:=fun r s'=>r=w/\EP X pins σ Q r s') pl (by omega) (by omega) (by rw [List.size_toArray,<- hl]; exact h1) (by simpa using ew) ⟨rfl,fin⟩) hs
theorem zqa (its:List Value) (n j:Nat) (u:Value):Obj.mapSeq (·.setIfInBounds j u) { cls:=.type "list", data:=.seq its.toArray n } = { cls:=.type "list", data:=.seq (its.set j u).toArray n }:=by
 simp [Obj.mapSeq]
theorem Inv.lst {pins:List (Addr×Obj)} {σ:St} {H:Hp} {s:Shared} {p:Addr} {xs:List V} (I:Inv X pins σ H s) (h:H p=some (.lst xs)) :
    ∃ (its:List Value) (n:Nat),Vals xs its/\s.heap.get? p=some { cls:=.type "list", data:=.seq its.toArray n }/\xs.length<=sizeLine:=by
  obtain ⟨z,its,n,r,e⟩:=I.hok p _ h
  exact ⟨its,n,r,e,z⟩
theorem Inv.lstUpd {pins:List (Addr×Obj)} {σ:St} {H:Hp} {s:Shared} {p:Addr} {xs ys:List V} {its its':List Value} {n n':Nat} {f:Obj->Obj} (I:Inv X pins σ H s) (h:H p=some (.lst xs))
    (ho:s.heap.get? p=some { cls:=.type "list", data:=.seq its.toArray n }) (hf:f { cls:=.type "list", data:=.seq its.toArray n } = { cls:=.type "list", data:=.seq its'.toArray n' }) (r:Vals ys its') (hz:ys.length<=sizeLine) (t:Nat) :
    Inv X pins σ (upd H p (.lst ys)) { s with heap:=s.heap.update p f,toks:=t }:=by
  have e:(s.heap.update p f).get? p=some { cls:=.type "list", data:=.seq its'.toArray n' }:=by
    rw [Heap.get?_update_self f ho (by rw [hf] <;> rfl),hf]
  refine I.write (x:=p) (e:=p) (by rw [h]; trivial) (.inl rfl) (fun b u hb q=>(Heap.get?_update_other _ _ (Ne.symm hb)).trans q) ⟨_,e⟩ ?_
  exact ⟨hz,its',n',r,e⟩
def rSetL:V->V->V->Hp->(Hp->Prop)->Prop:=fun o i v H Q=>∃ p xs k j,o = .ref p/\i = .int k/\H p=some (.lst xs)/\ixN xs.length k=some j/\Q (upd H p (.lst (xs.set j v)))
theorem zkm:PSet X rSetL:=by
 intro pins s σ H o i v ov iv u Q I ro ri rv h
 obtain ⟨p,xs,k,j,rfl,rfl,hp,hj,q⟩:=h
 cases ro
 obtain ⟨t,rfl⟩:=ri
 obtain ⟨its,n,r,ho,hz⟩:=I.lst hp
 obtain ⟨h1,h2,h3,h4⟩:=zrf hj
 have hl:=r.length
 have hn:=zkc
 have I':Inv X pins σ (upd H p (.lst (xs.set j v))) { s with heap:=s.heap.update p (Obj.mapSeq (·.setIfInBounds j u)) } :=
  I.lstUpd hp ho (zqa its n j u) (r.set rv j) (by rw [List.length_set]; exact hz) s.toks
 by_cases h0:0<=k
 ·have hk:k.toNat=j:=by
   rw [seqIndex_of h0 h4] at h1
   exact Option.some.inj h1
  exact PySem.W.ki_setAt ho h0 (by omega) (by rw [List.size_toArray,<- hl]; exact h4) (by rw [hk]; exact ⟨_,I',q⟩)
 ·have hk:(k+(its.toArray.size:Int)).toNat=j:=by
   rw [seqIndex_neg (by omega) h3] at h1
   rw [List.size_toArray,<- hl]
   exact Option.some.inj h1
  exact PySem.W.ki_setBack ho (by omega) (by rw [List.size_toArray,<- hl]; exact h3) (by omega) (by rw [hk]; exact ⟨_,I',q⟩)
theorem zma (lo hi:Option Int) (n:Nat):(sliceBounds lo hi none n).1=((HT.sIx n 0 lo:Nat):Int)/\(sliceBounds lo hi none n).2.1=((HT.sIx n n hi:Nat):Int)/\(sliceBounds lo hi none n).2.2 = 1:=by
 refine ⟨?_,?_,rfl⟩
 ·cases lo with
  | none=>simp [sliceBounds,HT.sIx]
  | some i =>
   simp only [sliceBounds,HT.sIx,Option.getD_none,show (1:Int) > 0 by decide,if_true]
   by_cases h:i<0
   ·simp only [h,if_true] <;> omega
   ·simp only [h,if_false] <;> omega
 ·cases hi with
  | none=>simp [sliceBounds,HT.sIx]
  | some i =>
   simp only [sliceBounds,HT.sIx,Option.getD_none,show (1:Int) > 0 by decide,if_true]
   by_cases h:i<0
   ·simp only [h,if_true] <;> omega
   ·simp only [h,if_false] <;> omega
theorem zkn (its:List Value) (lo hi:Option Int):slicePick its.toArray lo hi none=((its.drop (HT.sIx its.length 0 lo)).take (HT.sIx its.length its.length hi-HT.sIx its.length 0 lo)).toArray:=by
 obtain ⟨h1,h2,h3⟩:=zma lo hi its.toArray.size
 unfold slicePick
 rw [h1,h2,h3]
 simp only [sliceRange_one,pick_run,List.size_toArray] <;> rfl
def rSlL (K:PySem.W.Frag):V->Option Int->Option Int->Hp->VK->Prop:=fun x lo hi H Q=>∃ a xs,x = .ref a/\SqL K H a xs/\∀ p,H p=none->Q (.ref p) (upd H p (.lst (cutV xs lo hi)))
theorem zvj:SlR X (rSlL X.K):=by
 intro pins s σ H x v vl vu lo hi sl Q I rx hs pl pu h
 obtain ⟨a,xs,rfl,hx,q⟩:=h
 cases rx
 obtain ⟨its,r,ht,hz⟩:=I.list hx
 have hlen:=r.length
 refine ⟨"list", _,slot_list_getitem.lookup,ht.isList.typeIs,?_⟩
 refine wpAny_getItem_list_slice ht.isList hs pl pu .none (by simp) ?_ (by rw [List.size_toArray] <;> omega)
 rw [zkn,<- hlen]
 refine ⟨.ref s.heap.objs.size,_,I.laid (t':=s.toks) (o:=.lst (cutV xs lo hi)) (fun b ob q=>Heap.get?_push_of_some _ q) (Nat.le_refl _) ?_,rfl,q _ (I.hok.fresh (Nat.le_refl _))⟩
 exact ⟨Nat.le_trans (znp xs lo hi) hz,_,0,(r.drop (HT.sIx xs.length 0 lo)).take (HT.sIx xs.length xs.length hi-HT.sIx xs.length 0 lo),Heap.get?_push_size _ rfl⟩
def flatV:V->Bool
 | .non=>true
 | .bl _=>true
 | .int _=>true
 | .str _=>true
 | _=>false
def eqV:V->V->Bool
 | .non,.non=>true
 | .bl a,.bl b=>a == b
 | .bl a,.int b=>(if a then 1 else 0) == b
 | .int a,.bl b=>a == (if b then 1 else 0)
 | .int a,.int b=>a == b
 | .str a,.str b=>a == b
 | _,_=>false
theorem zxh {A:Around} {s:Shared} {y x:V} {u v:Value} (ry:RelV y u) (rx:RelV x v) (fy:flatV y=true) (fx:flatV x=true):SeqAt.EqAt A s u v (eqV y x):=by
 cases y with
 | non =>
  cases ry
  cases x with
  | non=>cases rx; exact SeqAt.EqAt.same _
  | bl b=>cases rx; exact SeqAt.EqAt.none_bool b
  | int b=>obtain ⟨t,rfl⟩:=rx; exact SeqAt.EqAt.none_int b t
  | str b=>obtain ⟨t,rfl⟩:=rx; exact SeqAt.EqAt.none_str b t
  | _=>exact absurd (show false=true from fx) Bool.false_ne_true
 | bl a =>
  cases ry
  cases x with
  | non=>cases rx; exact SeqAt.EqAt.bool_none a
  | bl b=>cases rx; exact SeqAt.EqAt.bool_bool a b
  | int b=>obtain ⟨t,rfl⟩:=rx; exact SeqAt.EqAt.bool_int a b t
  | str b=>obtain ⟨t,rfl⟩:=rx; exact SeqAt.EqAt.bool_str a b t
  | _=>exact absurd (show false=true from fx) Bool.false_ne_true
 | int a =>
  obtain ⟨t',rfl⟩:=ry
  cases x with
  | non=>cases rx; exact SeqAt.EqAt.int_none a t'
  | bl b=>cases rx; exact SeqAt.EqAt.int_bool a t' b
  | int b=>obtain ⟨t,rfl⟩:=rx; exact SeqAt.EqAt.int_int a t' b t
  | str b=>obtain ⟨t,rfl⟩:=rx; exact SeqAt.EqAt.int_str a t' b t
  | _=>exact absurd (show false=true from fx) Bool.false_ne_true
 | str a =>
  obtain ⟨t',rfl⟩:=ry
  cases x with
  | non=>cases rx; exact SeqAt.EqAt.str_none a t'
  | bl b=>cases rx; exact SeqAt.EqAt.str_bool a t' b
  | int b=>obtain ⟨t,rfl⟩:=rx; exact SeqAt.EqAt.str_int a t' b t
  | str b=>obtain ⟨t,rfl⟩:=rx; exact SeqAt.EqAt.str_str a t' b t
  | _=>exact absurd (show false=true from fx) Bool.false_ne_true
 | _=>exact absurd (show false=true from fy) Bool.false_ne_true
def eqU (x:V) (u:Value):Bool:=match u with
 | .none=>eqV .non x
 | .bool b=>eqV (.bl b) x
 | .int i _=>eqV (.int i) x
 | .str z _=>eqV (.str z) x
 | _=>false
theorem zug {x y:V} {u:Value} (r:RelV y u) (f:flatV y=true):eqU x u=eqV y x:=by
 cases y with
 | non=>cases r; rfl
 | bl b=>cases r; rfl
 | int i=>obtain ⟨t,rfl⟩:=r; rfl
 | str z=>obtain ⟨t,rfl⟩:=r; rfl
 | _=>exact absurd (show false=true from f) Bool.false_ne_true
theorem znq {x:V}:∀ {xs:List V} {us:List Value},Vals xs us->xs.all flatV=true->us.any (eqU x)=xs.any fun y=>eqV y x
 | _,_,.nil,_=>rfl
 | y :: xs,u :: us,.cons r t,f=>by
  rw [List.all_cons,Bool.and_eq_true] at f
  rw [List.any_cons,List.any_cons,zug r f.1,znq t f.2]
theorem zko {A:Around} {s:Shared} {x:V} {v:Value} (rx:RelV x v) (fx:flatV x=true):∀ {xs:List V} {us:List Value},Vals xs us->xs.all flatV=true->∀ u∈us,SeqAt.EqAt A s u v (eqU x u)
 | _,_,.nil,_=>fun u hu=>by cases hu
 | y :: xs,u :: us,.cons r t,f=>fun u' hu=>by
  rw [List.all_cons,Bool.and_eq_true] at f
  rcases List.mem_cons.mp hu with rfl | hu
  ·rw [zug r f.1]; exact zxh r rx f.1 fx
  ·exact zko rx fx t f.2 u' hu
def inV (x:V) (xs:List V):Bool:=xs.any fun y=>eqV y x
def rIn (K:PySem.W.Frag) (neg:Bool):R2:=fun x y H Q=>∃ p xs,y = .ref p/\(SqL K H p xs\/SqT K H p xs)/\flatV x=true/\xs.all flatV=true/\Q (.bl (if neg then !inV x xs else inV x xs)) H
theorem zmb:OpR X (compareOp .NotIn) (rIn X.K true):=by
 intro pins s σ H x y v u Q I rx ry h
 obtain ⟨p,xs,rfl,hq,fx,fs,q⟩:=h
 cases ry
 rcases hq with hq | hq
 ·obtain ⟨its,r,pl,hz⟩:=I.list hq
  refine SeqAt.notIn_listAt (eqU x) pl.isList (fun w hw=>zko rx fx r fs w (by simpa using hw)) ⟨.bl _,H,I,rfl,?_⟩
  rw [show its.toArray.any (eqU x)=its.any (eqU x) by simp,znq r fs]
  exact q
 ·obtain ⟨its,r,pl,hz⟩:=I.tuple hq
  refine SeqAt.notIn_tupleAt (eqU x) pl (fun w hw=>zko rx fx r fs w (by simpa using hw)) ⟨.bl _,H,I,rfl,?_⟩
  rw [show its.toArray.any (eqU x)=its.any (eqU x) by simp,znq r fs]
  exact q
theorem zmc:CallR X (.builtin "len") (fun xs H Q=>∃ p ys,xs = [.ref p]/\(SqL X.K H p ys\/SqT X.K H p ys)/\Q (.int ys.length) H):=by
 intro pins s σ H xs us Q I r h
 obtain ⟨p,ys,rfl,hq,q⟩:=h
 obtain ⟨u,rfl,rx⟩:=vals1 r
 cases rx
 have hn:=zkc
 rcases hq with hq | hq
 ·obtain ⟨its,r',pl,hz⟩:=I.list hq
  have hlen:=r'.length
  exact Calls.call_len_list pl.isList (by simp only [List.size_toArray] <;> omega) ⟨.int ys.length,H,I.tok _,⟨s.toks+1,by rw [List.size_toArray,hlen]⟩,q⟩
 ·obtain ⟨its,r',pl,hz⟩:=I.tuple hq
  have hlen:=r'.length
  exact len_tuple pl (by simp only [List.size_toArray] <;> omega) ⟨.int ys.length,H,I.tok _,⟨s.toks+1,by rw [List.size_toArray,hlen]⟩,q⟩
theorem zmd:CallR X (.builtin "len") (fun xs H Q=>∃ z,xs = [.str z]/\z.length<=sizeLine/\Q (.int z.length) H):=by
 intro pins s σ H xs us Q I r h
 obtain ⟨z,rfl,hz,q⟩:=h
 obtain ⟨u,rfl,t,rfl⟩:=vals1 r
 have hn:=zkc
 exact len_str (by omega) ⟨.int z.length,H,I.tok _,⟨_,rfl⟩,q⟩
def tyV (K:PySem.W.Frag) (T:String) (x:V) (H:Hp):Prop:=match x with
  | .str _=>T = "str"
  | .int _=>T = "int"
  | .ref p=>(T = "list" /\ ∃ xs,SqL K H p xs)\/(T = "tuple" /\ ∃ o,K.lookup p=some o/\o.cls = .type "tuple" /\ o.dict=none) \/
      (T = "dict" /\ ((∃ kvs,H p=some (.dK kvs))\/∃ kvs,H p=some (.dT kvs)))\/(T = "set" /\ ∃ S n,H p=some (.set S n))
  | _=>False
theorem zuh {pins:List (Addr×Obj)} {σ:St} {H:Hp} {s:Shared} {T:String} {x:V} {v:Value} (I:Inv X pins σ H s) (r:RelV x v) (ty:tyV X.K T x H) :
    s.TypeIs v T/\∀ a,v = .ref a->∃ ob,s.heap.get? a=some ob/\ob.dict=none:=by
  cases x with
  | str z =>
    obtain ⟨t,rfl⟩:=r
    cases (show T = "str" from ty)
    exact ⟨typeIs_str s z t,fun _ e=>nomatch e⟩
  | int i =>
    obtain ⟨t,rfl⟩:=r
    cases (show T = "int" from ty)
    exact ⟨typeIs_int s i t,fun _ e=>nomatch e⟩
  | ref p =>
    cases r
    rcases ty with ⟨rfl,xs,hq⟩ | ⟨rfl,o,hk,hc,hd⟩ | ⟨rfl,hk⟩ | ⟨rfl,S,n,hk⟩
    · obtain ⟨its,_,pl,_⟩:=I.list hq
      refine ⟨pl.isList.typeIs,fun a e=>?_⟩
      cases e
      obtain ⟨o,n,e,c,hd,_⟩:=pl
      exact ⟨o,e,hd⟩
    · refine ⟨⟨o,I.kIn p o hk,hc⟩,fun a e=>?_⟩
      cases e
      exact ⟨o,I.kIn _ o hk,hd⟩
    · have z:∃ o,s.heap.get? p=some o/\o.ExactDict:=by
        rcases hk with ⟨kvs,hk⟩ | ⟨kvs,hk⟩
        · obtain ⟨_,_,_,_,o,_,_,e,ex,_⟩:=I.hok p _ hk
          exact ⟨o,e,ex⟩
        · obtain ⟨_,_,_,_,o,_,_,e,ex,_⟩:=I.hok p _ hk
          exact ⟨o,e,ex⟩
      obtain ⟨o,e,ex⟩:=z
      refine ⟨⟨o,e,ex.1⟩,fun a e2=>?_⟩
      cases e2
      exact ⟨o,e,ex.2.1⟩
    · obtain ⟨o,_,_,_,e,ex,_⟩:=I.hok p _ hk
      refine ⟨⟨o,e,ex.1⟩,fun a e2=>?_⟩
      cases e2
      exact ⟨o,e,ex.2.1⟩
  | _=>exact False.elim ty
def tBM0 (K:PySem.W.Frag) (T:String) (r:V->List V->Hp->VK->Prop) (to:TE):TE:=fun σ H Q=>to σ H fun x H1=>tyV K T x H1/\r x [] H1 Q
def tBM (K:PySem.W.Frag) (T:String) (r:V->List V->Hp->VK->Prop) (to:TE) (t:TA):TE:=fun σ H Q=>to σ H fun x H1=>tyV K T x H1/\t σ H1 fun xs H2=>r x xs H2 Q
variable {o e:Expr} {es:List Expr} {to:TE} {t:TA} {name:Str} {apos cpos:Pos} {T id:String} {r:V->List V->Hp->VK->Prop}
theorem zxi (pa:PlainAttrs T) (slot:Slot T name id) (hty:typeOf (.builtin id)=pure (.type "method_descriptor")) (hm:MtR X id r) (ho:PE X o to)
    (hbase:attributeBase o name X.env (eval o X.env)=eval o X.env:=by rfl) (hline:(apos.endLine == cpos.line)=true:=by rfl):PE X (.Call (.Attribute o name apos) [] [] cpos) (tBM0 X.K T r to):=by
  intro pins s σ H Q I h
  refine wpAny_Call_method0_late hbase hline (thn (ho pins s σ H _ I h) fun v s1 ⟨x,H1,I1,r1,ty,q1⟩=>?_)
  obtain ⟨h1,h2⟩:=zuh I1 r1 ty
  exact ⟨T,id,pa,slot,hty,h1,h2,Calls.callWith_builtin rfl (PySem.evalArgs_none (hm pins s1 σ H1 x [] v [] Q I1 r1 .nil q1))⟩
theorem pe_bm (pa:PlainAttrs T) (slot:Slot T name id) (hty:typeOf (.builtin id)=pure (.type "method_descriptor")) (hm:MtR X id r) (ho:PE X o to) (ha:PA X (e :: es) t)
    (hbase:attributeBase o name X.env (eval o X.env)=eval o X.env:=by rfl)
    (hfew:((backTo cpos (starEach (e :: es) X.env)).all (fun x=>!x.1) && (backToKw cpos (keywordEach [] X.env)).all (fun x=>x.1.isSome)
      && decide ((e :: es).length+([]:List Keyword).length+(if ([]:List Keyword).isEmpty then 0 else 1)<30))=true:=by rfl)
    (hline:(apos.endLine == cpos.line)=true:=by rfl) (hs:starEach (e :: es) X.env=(false,eval e X.env) :: starEach es X.env:=by rfl) (hplain:(backTo cpos (starEach es X.env)).any (·.1)=false:=by rfl) :
    PE X (.Call (.Attribute o name apos) (e :: es) [] cpos) (tBM X.K T r to t):=by
  intro pins s σ H Q I h
  refine wpAny_Call_method_late hbase hfew hline rfl (thn (ho pins s σ H _ I h) fun v s1 ⟨x,H1,I1,r1,ty,q1⟩=>?_)
  obtain ⟨h1,h2⟩:=zuh I1 r1 ty
  refine ⟨T,id,pa,slot,hty,h1,h2,?_⟩
  have hA:=ha cpos pins s1 σ H1 _ I1 q1
  rw [hs] at hA ⊢
  refine Calls.callWith_builtin (by show (false || (backTo cpos (starEach es X.env)).any (·.1))=false; rw [hplain] <;> rfl) (Calls.evalArgs_plain ?_)
  exact thn hA fun us s2 ⟨vs,H2,I2,r2,q2⟩=>hm pins s2 σ H2 x vs v us Q I2 r1 r2 q2
end
end L2
namespace L2
open PySem PySem.Spec PyProof.Rows
def MtM (X:Cx) (id:String) (r:V->List V->Hp->VK->Prop):Prop :=
 ∀ (pins:List (Addr×Obj)) (s:Shared) (σ:St) (H:Hp) (x:V) (xs:List V) (v:Value) (us:List Value) (Q:VK),Inv X pins σ H s->RelV x v->Vals xs us->r x xs H Q ->
  wpAny (model X.prog X.w) X.A (call (.builtin id) (v :: us)) (EP X pins σ Q) X.xe s
theorem Vals.one:∀ {x:V} {us:List Value},Vals [x] us->∃ u,us = [u]/\RelV x u
 | _,_,.cons r .nil=>⟨_,rfl,r⟩
theorem Vals.two:∀ {x y:V} {us:List Value},Vals [x,y] us->∃ u v,us = [u,v]/\RelV x u/\RelV y v
 | _,_,_,.cons r (.cons q .nil)=>⟨_,_,rfl,r,q⟩
theorem Vals.zero:∀ {us:List Value},Vals [] us->us = []
 | _,.nil=>rfl
theorem Vals.reverse {xs:List V} {us:List Value} (h:Vals xs us):Vals xs.reverse us.reverse:=by
 induction h with
 | nil=>exact .nil
 | cons r t ih=>rw [List.reverse_cons,List.reverse_cons]; exact Vals.append ih (.cons r .nil)
theorem Vals.rep {xs:List V} {us:List Value} (h:Vals xs us):∀ k:Nat,Vals (List.replicate k xs).flatten (List.replicate k us).flatten
 | 0=>.nil
 | k+1=>by
  rw [List.replicate_succ,List.replicate_succ,List.flatten_cons,List.flatten_cons]
  exact Vals.append h (Vals.rep h k)
theorem zme (its:List Value):∀ (k:Nat) (acc:List Value),
    List.foldl (fun x1 x2=>x1++x2) acc.toArray (List.replicate k its.toArray)=(acc++(List.replicate k its).flatten).toArray
  | 0,acc=>by simp
  | k+1,acc=>by
    have e:acc.toArray++its.toArray=(acc++its).toArray:=by simp
    have e2:(acc++its)++(List.replicate k its).flatten=acc++(List.replicate (k+1) its).flatten:=by
      rw [List.replicate_succ,List.flatten_cons,List.append_assoc]
    rw [<- e2,<- zme its k (acc++its),<- e,List.replicate_succ,List.foldl_cons]
section
variable {X:Cx} {pins:List (Addr×Obj)} {σ:St} {H:Hp} {s:Shared} {l b:Addr} {xs ys zs:List V}
theorem Inv.lset {its its':List Value} {n:Nat} {f:Array Value->Array Value} {t':Nat} (I:Inv X pins σ H s) (hH:H l=some (.lst xs))
    (e:s.heap.get? l=some { cls:=.type "list", data:=.seq its.toArray n }) (hf:f its.toArray=its'.toArray) (hv:Vals ys its') (hz:ys.length<=sizeLine) :
    Inv X pins σ (upd H l (.lst ys)) { s with heap:=s.heap.update l (Obj.mapSeq f),toks:=t' }:=by
  have q:=PySem.IsL.update e f
  rw [hf] at q
  refine I.write (x:=l) (e:=l) (by rw [hH]; exact trivial) (.inl rfl) (fun b' u hb hu=>(Heap.get?_update_other s.heap (Obj.mapSeq f) (Ne.symm hb)).trans hu) ⟨_,q⟩ ?_
  exact ⟨hz,its',_,hv,q⟩
theorem Inv.lnew {its:List Value} {t':Nat} (I:Inv X pins σ H s) (hv:Vals ys its) (hz:ys.length<=sizeLine) :
    Inv X pins σ (upd H s.heap.objs.size (.lst ys)) { s with heap:=s.heap.push { cls:=.type "list", data:=.seq its.toArray },toks:=t' } :=
  I.laid (fun _ _ q=>Heap.get?_push_of_some _ q) (Nat.le_refl _) ⟨hz,its,0,hv,Heap.get?_push_size _ rfl⟩
theorem Inv.fresh (I:Inv X pins σ H s):H s.heap.objs.size=none:=I.hok.fresh (Nat.le_refl _)
theorem Inv.lstM (I:Inv X pins σ H s) (hH:H l=some (.lst xs)):xs.length<=sizeLine/\∃ (its:List Value) (n:Nat),Vals xs its/\xs.length=its.length/\s.heap.get? l=some { cls:=.type "list", data:=.seq its.toArray n }:=by
 obtain ⟨z,its,n,r,e⟩:=I.hok l _ hH
 exact ⟨z,its,n,r,r.length,e⟩
theorem ztc {n:Nat} (h:n<=sizeLine):Builtin.List.listTooLong n=false:=by
 unfold Builtin.List.listTooLong
 exact decide_eq_false (by omega)
end
section
variable {X:Cx}
def zrh:V->List V->Hp->VK->Prop:=fun x vs H Q=>∃ l xs y,x = .ref l/\vs = [y]/\H l=some (.lst xs)/\xs.length<sizeLine/\Q .non (upd H l (.lst (xs++[y])))
theorem zfu:MtM X "list.append" zrh:=by
 intro pins s σ H x vs v us Q I rx rv h
 obtain ⟨l,xs,y,rfl,rfl,hH,hz,q⟩:=h
 cases rx
 obtain ⟨u,rfl,ru⟩:=rv.one
 obtain ⟨z,its,n,r,hl,e⟩:=I.lstM hH
 refine call_meets F.slot_list_append ⟨_,e,rfl⟩ F.entry_list_append (F.args_list_append_2 _ _) (PySem.list_append l its.toArray n u (by rw [List.size_toArray]; omega)) ⟨e,?_⟩
 refine ⟨.non,_,I.lset (its':=its++[u]) hH e (by simp) (r.append (.cons ru .nil)) ?_,rfl,q⟩
 rw [List.length_append,List.length_singleton]
 omega
def ztd:V->List V->Hp->VK->Prop:=fun x vs H Q=>∃ l xs,x = .ref l/\vs = []/\H l=some (.lst xs)/\Q .non (upd H l (.lst xs.reverse))
theorem zqb:MtM X "list.reverse" ztd:=by
 intro pins s σ H x vs v us Q I rx rv h
 obtain ⟨l,xs,rfl,rfl,hH,q⟩:=h
 cases rx
 have hus:=rv.zero
 subst hus
 obtain ⟨z,its,n,r,hl,e⟩:=I.lstM hH
 refine call_meets F.slot_list_reverse ⟨_,e,rfl⟩ F.entry_list_reverse (F.args_list_reverse_1 _) (AutoSeq1.list_reverse_list_0 l its.toArray n (by rw [List.size_toArray]; omega)) ⟨e,?_⟩
 refine ⟨.non,_,I.lset (its':=its.reverse) hH e (by simp) r.reverse ?_,rfl,q⟩
 rw [List.length_reverse]
 omega
def rCat:R2:=fun x y H Q=>∃ l b xs zs,x = .ref l/\y = .ref b/\H l=some (.lst xs)/\H b=some (.lst zs)/\xs.length+zs.length<=sizeLine/\∀ p,H p=none->Q (.ref p) (upd H p (.lst (xs++zs)))
theorem zui:OpR X (binaryOp .Add) rCat:=by
 intro pins s σ H x y v u Q I rx ry h
 obtain ⟨l,b,xs,zs,rfl,rfl,hH,hB,hz,q⟩:=h
 cases rx
 cases ry
 obtain ⟨z,its,n,r,hl,e⟩:=I.lstM hH
 obtain ⟨z2,its2,n2,r2,hl2,e2⟩:=I.lstM hB
 refine PySem.P.add_list e e2 ?_ (by rw [List.size_toArray,List.size_toArray]; omega)
 have ea:its.toArray++its2.toArray=(its++its2).toArray:=by simp
 rw [ea]
 exact ⟨.ref _,_,I.lnew (t':=s.toks) (r.append r2) (by rw [List.length_append]; omega),rfl,q _ I.fresh⟩
def rRep:R2:=fun x y H Q=>∃ l k xs,x = .ref l/\y = .int k/\H l=some (.lst xs)/\-(2 ^ 63)<=k/\k<2 ^ 63/\xs.length*k.toNat<=sizeLine /\
 ∀ p,H p=none->Q (.ref p) (upd H p (.lst (List.replicate k.toNat xs).flatten))
theorem zvk {α:Type} (xs:List α) (k:Nat):(List.replicate k xs).flatten.length=k*xs.length:=by
 induction k with
 | zero=>simp
 | succ k ih=>rw [List.replicate_succ,List.flatten_cons,List.length_append,ih,Nat.succ_mul,Nat.add_comm]
theorem zxj:OpR X (binaryOp .Mult) rRep:=by
 intro pins s σ H x y v u Q I rx ry h
 obtain ⟨l,k,xs,rfl,rfl,hH,h1,h2,hz,q⟩:=h
 cases rx
 obtain ⟨t,rfl⟩:=ry
 obtain ⟨z,its,n,r,hl,e⟩:=I.lstM hH
 have hlen:its.toArray.size*k.toNat<=sizeLine:=by rw [List.size_toArray,<- hl]; exact hz
 have hcap:¬ its.toArray.size*k.toNat > (2 ^ 63-1) / 8:=by
  have:(sizeLine:Nat)<=(2 ^ 63-1) / 8:=by decide
  omega
 have hfit:¬ (!Builtin.List.listFitsIndex k)=true:=by
  rw [fitsIndex_both h1 h2]
  exact Bool.false_ne_true
 have hlong:¬ Builtin.List.listTooLong (its.toArray.size*k.toNat)=true:=by
  rw [ztc hlen]
  exact Bool.false_ne_true
 have hnew:List.foldl (fun x1 x2=>x1++x2) #[] (List.replicate (if its.toArray.isEmpty=true then 0 else k.toNat) its.toArray)=(List.replicate k.toNat its).flatten.toArray:=by
  have f0:∀ m:Nat,List.foldl (fun x1 x2=>x1++x2) #[] (List.replicate m its.toArray)=(List.replicate m its).flatten.toArray:=fun m=>by
   have:=zme its m []
   rw [List.nil_append] at this
   exact this
  rw [f0]
  cases its with
  | nil=>simp
  | cons a r'=>rw [if_neg (by simp)]
 refine wpAny_binaryOp_repeat_ref (T := "list") (U := "int") (by decide) ⟨_,e,rfl⟩ (fun s'=>typeIs_int s' k t) noFill_list_mul F.fills_int_mul F.slot_int_rmul repeat_list F.slot_int_index.lookup
  (call_meets F.slot_int_rmul (typeIs_int s k t) F.entry_int_rmul (F.args_int_rmul_2 _ _) (int___rmul___int_list k t l its.toArray n)
   ⟨e,rfl,⟨_,e,rfl⟩,call_meets F.slot_list_mul ⟨_,e,rfl⟩ F.entry_list_mul (F.args_list_mul_2 _ _) (AutoListH.list___mul___list_int_3 l its.toArray n k t hfit hcap hlong) ⟨e,?_⟩⟩)
 rw [hnew]
 exact ⟨.ref _,_,I.lnew (t':=s.toks) (r.rep k.toNat) (by rw [zvk,Nat.mul_comm]; exact hz),rfl,q _ I.fresh⟩
end
section
variable {prog:Program} {w:World} {A:Around} {E:Value->Shared->Prop} {s:Shared}
end
section
variable {X:Cx}
end
end L2
namespace Att
open PySem PySem.W PySem.Calls PyProof.Rows
theorem zit {P:Params} {h:Heap}:∀ (ns:List Int) (vs:List Value),WellAll P h vs (ns.map WData.int)->IntsAre vs ns:=by
 intro ns
 induction ns with
 | nil =>
  intro vs w
  rw [List.map_nil] at w
  cases w
  exact .nil
 | cons n ns ih =>
  intro vs w
  rw [List.map_cons] at w
  cases w with
  | cons a b =>
   cases a
   exact .cons _ _ (ih _ b)
theorem zri {l:OpenLaw} {n:Nat} (hn:l.most=some n) {P:Params} {h:Heap} {args:List WData} {vals:List Value}
    (hpre:l.row.toRowW.claim.pre args=true) (hwl:WellAll P h vals args) :
    ∃ a vs ns,vals = [Value.ref a]/\args = [WData.list (ns.map WData.int)]/\h.get? a=some { cls:=.type "list", data:=.seq vs.toArray }/\IntsAre vs ns/\ns.length<=n:=by
  have hsh:WShape.hasAll [] args [.list .int] = true:=(pre_splitW hpre).1
  have hc:l.pre.holds [] { args:=args } = true:=(pre_splitW hpre).2
  obtain ⟨d,r,rfl,h1,h2⟩:=hasAllW_cons hsh
  obtain rfl:=hasAllW_nil h2
  obtain ⟨xs,rfl,h3⟩:=hasW_list h1
  obtain ⟨ns,rfl⟩:=items_int h3
  have hlen:ns.length<=n:=by
    unfold OpenLaw.pre at hc
    have h4:(WTm.not (.lt (.lit (.int (n:Int))) (.len (.arg 0)))).holds [] { args:=[.list (ns.map .int)] } = true:=by
      have h4:=(holds_andW hc).1
      rw [hn] at h4
      exact h4
    have h5:=condW_of h4 (w_not (w_lt w_lit (w_len_list (w_arg rfl))))
    rw [List.length_map] at h5
    refine Nat.le_of_not_lt fun q=>?_
    have q':(n:Int)<((ns.length:Nat):Int):=by omega
    first
      | (rw [decide_eq_true q'] at h5; exact absurd h5 (by decide))
      | (simp at h5; omega)
  cases hwl with
  | cons w1 w2 =>
    cases w2
    cases w1 with
    | list ho hall=>exact ⟨_,_,ns,rfl,rfl,ho,zit ns _ hall,hlen⟩
theorem zrj (l:OpenLaw) (args:List WData):l.row.toRowW.claim.post args (.bool true) args=true :=
 postW_of (r:=l.row.toRowW) (X:=(true == true))
  (show WShape.has [] (.bool true) .bool=true by first | rfl | decide | simp [WShape.has,WShape.arms,WShape.armsAll])
  (show (WTm.eq .res (.lit (.bool true))).value [] { args:=args,res:=some (.bool true),after:=args } = some (.bool (true == true)) from w_eq_bool (w_res rfl) w_lit) rfl
theorem attach_call {l:OpenLaw} {n:Nat} {q:Program} {loose:List Str} {XP:(Str->Option Value)->Heap->Prop} {YP:World->Heap->Prop} {d:DefRec}
    (hn:l.most=some n) (hdf:d.params.defaults = [])
    (call:∀ (w:World) (s₀ s₁:Shared) (mg mb:Str->Option Value) (fa:Addr) (o:Obj) (pm cd doc:Value) (a:Addr) (vs:List Value) (ns:List Int),
      Ground q loose [] XP w s₀ mg mb s₁.heap->YP w s₁.heap ->
      s₁.heap.get? fa=some o->o.data = .func (docDef d.name d.params d.body d.scope pm cd doc)->s₁.heap.CodeRec cd d.name->mg d.name=some (.ref fa) ->
      s₁.heap.get? a=some { cls:=.type "list", data:=.seq vs.toArray }->IntsAre vs ns->ns.length<=n->s₁.gens = #[] ->
      codeAny (model l.prog w) callerA (.call (.ref fa) ⟨[.ref a],[]⟩) (fun r s'=>r = .ok (.ret (.bool true))/\OldK s₁.heap s'.heap/\s'.os=s₁.os/\AllBare s'.gens) s₁) :
    WalkO q loose XP YP l.row.toRowW d [] (fun f vs=>PySem.call f vs):=by
  intro w s₀ s₁ mg mb G Y fa o pm cd doc dV kV ho hd hcd hD hmg hg args vals as hpre hlay hrd hwl hlo
  obtain rfl:dV = .none:=Dflts.none hD hdf
  obtain rfl:kV = .none:=Dflts.noKw hD
  obtain ⟨a,vs,ns,rfl,rfl,hobj,hints,hlen⟩:=zri hn hpre hwl
  refine enter_call (codeAny_mono (call w s₀ s₁ mg mb fa o pm cd doc a vs ns G Y ho (fd_plain hd) hcd hmg hobj hints hlen hg) fun r s' hq=>?_)
  obtain ⟨rfl,h2,h3,h4⟩:=hq
  exact ⟨.inl ⟨.bool true,.bool true,[],rfl,fun _=>rfl,.bool true,zrj l _,fun _=>⟨List.Pairwise.nil,fun _ hm=>(nomatch hm)⟩⟩,h2,h3,h4⟩
section
variable {prog:Program} {w:World} {A:Around} {E:Value->Shared->Prop} {s:Shared} {K:Frag}
end
end Att
namespace L2
open PySem PySem.Spec PyProof.Rows
theorem zmf:∀ {vs:List Value} {ns:List Int},IntsAre vs ns->Vals (ns.map V.int) vs
 | _,_,.nil=>.nil
 | _,_,.cons n t h=>.cons ⟨t,rfl⟩ (zmf h)
def Only (H:Hp):Prop:=∀ b,H b=none\/∃ o xs,H b=some (.frz o (.lst xs))
theorem law_call {P:Program} {w:World} {K:PySem.W.Frag} {mg mb:Str->Option Value} {CX:CXT} {k:Nat} {fa a:Addr} {fd:FuncData} {x:Str} {sp:Sp} {s₁:Shared} {vs:List Value} {ns:List Int}
    (KX:K.In s₁.heap) (hns:s₁.heap.Ns mainGlobals mg) (hb:s₁.heap.Ns builtinsNs mb) (hbb:∀ x:Str,x ≠ "__name__" -> mb x=bootBuiltins x) (hlim:s₁.heap.NoLimit) (hg:s₁.gens = #[])
    (ha:s₁.heap.get? a=some { cls:=.type "list", data:=.seq vs.toArray }) (hi:IntsAre vs ns) (hl:ns.length<=sizeLine) (hr:Room k callerA)
    (F:∀ base:Heap,K.In base->base.Ns mainGlobals mg->FnOk P w K mg base CX k fa fd [x] sp) (hbind:∀ (s:Shared) (u:Value),BindsTo s fd ⟨[u],[]⟩ [(x,u)])
    (hsp:∀ H:Hp,Only H->SqL K H a (ns.map V.int)->sp [.ref a] H (fun v _=>v = .bl true) fun _ _ _=>False)
    (hCX:∀ H e s',CX [] H s₁ (fun _ _ _=>False) e s'->False) :
    codeAny (model P w) callerA (.call (.ref fa) ⟨[.ref a],[]⟩) (fun r s'=>r = .ok (.ret (.bool true))/\OldK s₁.heap s'.heap/\s'.os=s₁.os/\AllBare s'.gens) s₁:=by
  have rv:=zmf hi
  have lenV:=hi.length
  have core:∀ H:Hp,Only H->SqL K H a (ns.map V.int)->HOk P w H s₁.heap->(∀ b,H b≠none->b=a)->(H a≠none->K.lookup a=none) ->
      codeAny (model P w) callerA (.call (.ref fa) ⟨[.ref a],[]⟩) (fun r s'=>r = .ok (.ret (.bool true))/\OldK s₁.heap s'.heap/\s'.os=s₁.os/\AllBare s'.gens) s₁:=by
    intro H hO hS hok hA hK
    have base_of:∀ {b:Addr} {o:Obj},s₁.heap.get? b=some o->H b=none->(hidT s₁.heap H).get? b=some o:=fun e n=>zsv e n
    have noA:∀ {b:Addr} {o:Obj} {es:Array DictEntry} {ep:Nat},s₁.heap.get? b=some o->o.data = .dict es ep->H b=none:=fun {b o es ep} e d=>by
      cases q:H b with
      | none=>rfl
      | some u =>
        have e':b=a:=hA b (by rw [q]; simp)
        subst e'
        rw [ha] at e; cases e
        have d':Data.seq vs.toArray _=Data.dict es ep:=d
        cases d'
    have nsK:∀ {b:Addr} {m:Str->Option Value},s₁.heap.Ns b m->(hidT s₁.heap H).Ns b m:=fun {b m} ⟨o,es,ep,e,d,r⟩=>⟨o,es,ep,base_of e (noA e d),d,r⟩
    have hKb:K.In (hidT s₁.heap H):=fun b o e=>base_of (KX b o e) (by
      cases q:H b with
      | none=>rfl
      | some u =>
        have e':b=a:=hA b (by rw [q]; simp)
        subst e'
        rw [hK (by rw [q]; simp)] at e; cases e)
    have hM:Mod K mg (hidT s₁.heap H):=⟨hKb,nsK hns,⟨mb,nsK hb,hbb⟩,let ⟨mc,h1,h2⟩:=hlim; ⟨mc,nsK h1,h2⟩⟩
    have e0:Env0 P w K mg (hidT s₁.heap H) callerA [] s₁ H:=⟨rfl,hM,fun b o e=>zuz e,Nat.le_of_eq (zqq _ _),trivial,fun b hb=>absurd (show b∈([]:List Addr) from hb) (by simp),hok,.of_eq hg⟩
    refine codeAny_mono ((F _ hKb (nsK hns)).run callerA [] s₁ H ⟨[.ref a],[]⟩ [.ref a] [.ref a] _ _ hr e0 (hbind s₁ (.ref a)) (.cons rfl .nil) (hsp H hO hS)) fun r s' h=>?_
    cases r with
    | error e=>exact (hCX H e s' h).elim
    | ok fl =>
      cases fl with
      | next=>exact False.elim h
      | brk=>exact False.elim h
      | cont=>exact False.elim h
      | ret u =>
        obtain ⟨v,H',os,bare,un,hok',r',q⟩:=h
        have q':v = .bl true:=q
        subst q'
        obtain rfl:u=Value.bool true:=r'
        refine ⟨rfl,OldK.of_keep fun b o e=>?_,os,bare⟩
        cases q:H b with
        | none=>exact un.keep b o e q (by intro z; exact absurd (show b∈([]:List Addr) from z) (by simp)) (by simp)
        | some u =>
          rcases hO b with z | ⟨ob,xs,z⟩
          · rw [q] at z; cases z
          · have z2:=un.frzs b ob _ z
            obtain ⟨e1,_⟩:=hok b _ z
            obtain ⟨e2,_⟩:=hok' b _ z2
            rw [e] at e1; cases e1
            exact e2
  cases hk:K.lookup a with
  | some o =>
    have e:=KX a o hk
    rw [ha] at e
    cases e
    refine core (fun _=>none) (fun _=>.inl rfl) (.inr ⟨_,vs.toArray,_,hk,rfl,rfl,rfl,by rw [List.size_toArray,lenV]; exact hl,by simpa using rv⟩) (fun b u z=>by have z':(none:Option HO)=some u:=z; cases z') (fun b z=>absurd rfl z) fun z=>absurd rfl z
  | none =>
    refine core (fun b=>if b=a then some (.frz { cls:=.type "list", data:=.seq vs.toArray } (.lst (ns.map V.int))) else none) (fun b=>?_) (.inl (.inr ⟨{ cls:=.type "list", data:=.seq vs.toArray },if_pos rfl⟩)) (fun b u z=>?_) (fun b z=>?_) fun _=>hk
    · by_cases hb:b=a
      · exact .inr ⟨_,_,if_pos hb⟩
      · exact .inl (if_neg hb)
    · by_cases hb:b=a
      · have z':=(if_pos hb).symm.trans z
        cases z'
        subst hb
        exact ⟨ha,by rw [List.length_map]; exact hl,vs,_,rv,ha⟩
      · have z':=(if_neg hb).symm.trans z
        cases z'
    · by_cases hb:b=a
      · exact hb
      · exact absurd (if_neg hb) z
end L2
namespace L2
open PySem PySem.Spec PyProof.Rows
abbrev KOf {K:PySem.W.Frag} {h:Heap} (_:K.In h):PySem.W.Frag:=K
theorem walk_of {l:PySem.W.OpenLaw} {n k:Nat} {q:Program} {loose:List Str} {XP:(Str->Option Value)->Heap->Prop} {YP:World->Heap->Prop} {d:DefRec} {K:Params->PySem.W.Frag} {CX:World->CXT} {sp:World->Sp} {x:Str}
    (hn:l.most=some n) (hn2:n<=sizeLine) (hdf:d.params.defaults = []) (hr:Room k callerA)
    (hY:∀ (w:World) (h:Heap),YP w h->(K w.params).In h)
    (F:∀ (w:World) (mg:Str->Option Value) (fa:Addr) (h:Heap),(K w.params).In h->h.Ns mainGlobals mg->mg d.name=some (.ref fa) ->
      ∃ fd:FuncData,(∀ (s:Shared) (u:Value),BindsTo s fd ⟨[u],[]⟩ [(x,u)]) /\
        ∀ base:Heap,(K w.params).In base->base.Ns mainGlobals mg->FnOk l.prog w (K w.params) mg base (CX w) k fa fd [x] (sp w))
    (hsp:∀ (w:World) (H:Hp) (a:Addr) (ns:List Int),ns.length<=n->Only H->SqL (K w.params) H a (ns.map V.int)->sp w [.ref a] H (fun v _=>v = .bl true) fun _ _ _=>False)
    (hCX:∀ (w:World) (H:Hp) (s:Shared) (e:Value) (s':Shared),CX w [] H s (fun _ _ _=>False) e s'->False) :
    PySem.W.WalkO q loose XP YP l.row.toRowW d [] (fun f vs=>PySem.call f vs):=by
  refine Att.attach_call hn hdf fun w s₀ s₁ mg mb fa o pm cd doc a vs ns G Y ho hd hcd hmg hobj hints hlen hg=>?_
  have KX:=hY w _ Y
  obtain ⟨fd,hb,hF⟩:=F w mg fa _ KX G.T.g hmg
  exact law_call KX G.T.g G.T.b G.T.builtins G.T.nolimit hg hobj hints (Nat.le_trans hlen hn2) hr hF hb (fun H hO hS=>hsp w H a ns hlen hO hS) fun H e s'=>hCX w H s₁ e s'
end L2
namespace L2
open PySem PySem.Spec PyProof.Rows
def zas (s:Stmt) (j:Nat):Stmt:=match s with
 | .ClassDef _ _ _ body _ _ _ _ _ _ _=>body.getD j (.Pass ⟨0,0,0,0⟩)
 | _=>.Pass ⟨0,0,0,0⟩
def zam (s:Stmt):Arguments:=match s with
 | .FunctionDef _ a _ _ _ _ _ _ _ _=>a
 | _=>{ posonlyargs:=[],args:=[],vararg:=none,kwonlyargs:=[],kw_defaults:=[],kwarg:=none,defaults:=[] }
def zaj (s:Stmt):List Stmt:=match s with
 | .FunctionDef _ _ b _ _ _ _ _ _ _=>b
 | _=>[]
def zab (s:Stmt):Scope:=match s with
 | .FunctionDef _ _ _ _ _ _ sc _ _ _=>sc
 | _=>{ kind:=.function,names:=[],isGenerator:=false,isCoroutine:=false }
abbrev CX0:CXT:=fun _ _ _ _ _ _=>False
abbrev E0:XK:=fun _ _ _=>False
structure Fun (K:PySem.W.Frag) (x qual:Str) (st:Stmt) (f:Addr) (fd:FuncData):Prop where
 ex:∃ (oc:Value) (od:Option Addr) (kV doc pm:Value) (an:Option Addr) (cdv ct:Value) (osl:Array (Option Value)),
  fd=PySem.W.fnOf x qual (zam st) (zaj st) (zab st) .none kV doc pm an cdv ct/\K.lookup f=some ⟨oc,od,.func fd,osl⟩/\PySem.W.codeIn K cdv qual=true
 kp:PySem.W.keepIn K (.ref f)=true
section
variable {P:Program} {w:World} {K:PySem.W.Frag} {mg:Str->Option Value} {base:Heap}
theorem Fun.ok {x qual:Str} {st:Stmt} {f:Addr} {fd:FuncData} {N ps:List Str} {k:Nat} {sp:Sp} (F:Fun K x qual st f fd) (S:FnScope N ps (zab st)) (len:∀ vs H Q E,sp vs H Q E->vs.length=ps.length)
    (hbody:∀ (cdv:Value) (A:Around) (outer:List Env) (s:Shared) (H:Hp) (vs:List V) (Q:VK) (E:XK),Room k (A.deeper (envOfC qual (zab st) s.heap.objs.size f cdv))->sp vs H Q E ->
      ∃ t,PSs (cxOf CX0 P w K mg base N qual (zab st) f cdv A outer s H E).nox (zaj st) t/\t { nx:=fun _ H'=>Q .non H',rt:=Q } (start N vs) H):FnOk P w K mg base CX0 (k+1) f fd ps sp:=by
  obtain ⟨oc,od,kV,doc,pm,an,cdv,ct,osl,rfl,lk,hcd⟩:=F.ex
  refine fn_of lk hcd S len fun A outer s H vs Q E hr hsp=>?_
  obtain ⟨t,h,q⟩:=hbody cdv A outer s H vs Q E hr hsp
  exact ⟨t,h.nox,q⟩
theorem Fun.binds {x qual:Str} {st:Stmt} {f:Addr} {fd:FuncData} {ps:List Str} (F:Fun K x qual st f fd)
    (h:∀ (kV doc pm:Value) (an:Option Addr) (cdv ct:Value) (us:List Value),us.length=ps.length->bindArgs (PySem.W.fnOf x qual (zam st) (zaj st) (zab st) .none kV doc pm an cdv ct) ⟨us,[]⟩ = pure (ps.zip us)):Binds K fd ps []:=by
  obtain ⟨oc,od,kV,doc,pm,an,cdv,ct,osl,rfl,lk,hcd⟩:=F.ex
  exact .all (h kV doc pm an cdv ct)
theorem zau {x qual:Str} {st:Stmt} {f:Addr} {oc:Value} {od an:Option Addr} {osl:Array (Option Value)} {kV doc pm cdv ct:Value} (l:K.lookup f=some ⟨oc,od,.func (PySem.W.fnOf x qual (zam st) (zaj st) (zab st) .none kV doc pm an cdv ct),osl⟩)
    (c:PySem.W.codeIn K cdv qual=true) (k:PySem.W.keepIn K (.ref f)=true):Fun K x qual st f (PySem.W.fnOf x qual (zam st) (zaj st) (zab st) .none kV doc pm an cdv ct):=⟨⟨oc,od,kV,doc,pm,an,cdv,ct,osl,rfl,l,c⟩,k⟩
end
theorem hu_of {A:Around} {k:Nat} (hr:Room k A):A.units+1<cLine:=Nat.lt_of_le_of_lt (Nat.add_le_add_left (by decide:1<=64) _) hr.units
section
variable {X:Cx}
theorem pv (i:Nat) {x:Str} {pos:Pos} (hN:X.N[i]? = some x:=by rfl) (hv:Vis X.env.scope x:=by first | exact Or.inl rfl | exact Or.inr (Or.inl rfl) | exact Or.inr (Or.inr rfl)) (hd:(x == ("__debug__" : Str))=false:=by decide)
    (hcd:(x == ("__classdict__" : Str))=false:=by decide):PE X (.Name x pos) (tVar i):=zxa hN hv hd hcd
end
theorem iteF {A B:Prop} (h:B):if false=true then A else B:=by
 rw [if_neg Bool.false_ne_true]
 exact h
theorem ite2 {c A B:Prop} [Decidable c] (h1:c->A) (h2:¬ c->B):if c then A else B:=by
 by_cases h:c
 ·rw [if_pos h]
  exact h1 h
 ·rw [if_neg h]
  exact h2 h
def Same (H H':Hp):Prop:=∀ b o,H b=some o->H' b=some o
theorem Same.refl (H:Hp):Same H H:=fun _ _ h=>h
theorem Same.trans {H H1 H2:Hp} (a:Same H H1) (b:Same H1 H2):Same H H2:=fun c o h=>b c o (a c o h)
theorem Same.free {H H':Hp} (e:Same H H') {l:Addr} (h:H' l=Option.none):H l=Option.none:=by
 cases q:H l with
 | none=>rfl
 | some o =>
  rw [e l o q] at h
  cases h
theorem Same.seq {K:PySem.W.Frag} {H H':Hp} {a:Addr} {xs:List V} (e:Same H H') (h:SqL K H a xs):SqL K H' a xs:=by
 rcases h with (h | ⟨o,h⟩) | h
 ·exact .inl (.inl (e _ _ h))
 ·exact .inl (.inr ⟨o,e _ _ h⟩)
 ·exact .inr h
end L2
set_option maxHeartbeats 4000000
namespace L2
open PySem PySem.Spec PyProof.Rows
theorem elc {α:Type} {P:List α->Prop} {n:Nat} (h:∀ x r,r.length=n->P (x :: r)):∀ us:List α,us.length=n+1->P us
 | [],e=>absurd e (by simp)
 | x :: r,e=>h x r (by simpa using e)
theorem el0 {α:Type} {P:List α->Prop} (h:P []):∀ us:List α,us.length = 0->P us
 | [],_=>h
 | _ :: _,e=>absurd e (by simp)
theorem el1 {α:Type} {P:List α->Prop} (h:∀ x0,P [x0]):∀ us:List α,us.length = 1->P us:=elc fun x r e=>el0 (P:=fun r=>P (x :: r)) (h x) r e
theorem el2 {α:Type} {P:List α->Prop} (h:∀ x0 x1,P [x0,x1]):∀ us:List α,us.length = 2->P us:=elc fun x r e=>el1 (P:=fun r=>P (x :: r)) (h x) r e
theorem el3 {α:Type} {P:List α->Prop} (h:∀ x0 x1 x2,P [x0,x1,x2]):∀ us:List α,us.length = 3->P us:=elc fun x r e=>el2 (P:=fun r=>P (x :: r)) (h x) r e
theorem el4 {α:Type} {P:List α->Prop} (h:∀ x0 x1 x2 x3,P [x0,x1,x2,x3]):∀ us:List α,us.length = 4->P us:=elc fun x r e=>el3 (P:=fun r=>P (x :: r)) (h x) r e
end L2
namespace Sw
def dv (a b:Int):Int:=(Int.gcd a b:Nat)
theorem dv_nn (a b:Int):0<=dv a b:=Int.natCast_nonneg _
theorem dv_l (a b:Int):dv a b ∣ a:=Int.gcd_dvd_left a b
theorem dv_r (a b:Int):dv a b ∣ b:=Int.gcd_dvd_right a b
theorem zrk (a b:Int):dv (-a) b=dv a b:=by unfold dv; rw [Int.neg_gcd]
theorem zrl (a b:Int):dv a (-b)=dv a b:=by unfold dv; rw [Int.gcd_neg]
theorem dv_zero (a:Int) (h:0<=a):dv a 0=a:=by
 unfold dv; rw [Int.gcd_zero_right]; omega
theorem zxk {a b:Int} (h:dv a b = 0):a = 0/\b = 0:=by
 unfold dv at h
 exact Int.gcd_eq_zero_iff.mp (by omega)
theorem dv_pos {a b:Int} (h:b≠0):0<dv a b:=by
 have:=dv_nn a b
 rcases Int.lt_or_eq_of_le this with q | q
 ·exact q
 ·exact absurd (zxk q.symm).2 h
theorem zuj {a b c:Int} (h1:c ∣ a) (h2:c ∣ b):c ∣ dv a b:=Int.dvd_coe_gcd h1 h2
theorem zxl {a b c d:Int} (h:∀ x:Int,(x ∣ a/\x ∣ b)↔(x ∣ c/\x ∣ d)):dv a b=dv c d:=by
 have h1:dv a b ∣ dv c d:=zuj ((h _).mp ⟨dv_l a b,dv_r a b⟩).1 ((h _).mp ⟨dv_l a b,dv_r a b⟩).2
 have h2:dv c d ∣ dv a b:=zuj ((h _).mpr ⟨dv_l c d,dv_r c d⟩).1 ((h _).mpr ⟨dv_l c d,dv_r c d⟩).2
 exact Int.dvd_antisymm (dv_nn _ _) (dv_nn _ _) h1 h2
theorem dv_step (a b:Int):dv b (a % b)=dv a b:=by
 refine zxl fun x=>⟨fun ⟨h1,h2⟩=>⟨?_,h1⟩,fun ⟨h1,h2⟩=>⟨h2,?_⟩⟩
 ·have e:=Int.mul_ediv_add_emod a b
  rw [<- e]
  exact Int.dvd_add (Int.dvd_trans h1 (Int.dvd_mul_right b _)) h2
 ·rw [Int.emod_def]
  exact Int.dvd_sub h1 (Int.dvd_trans h2 (Int.dvd_mul_right b _))
theorem dv_abs (a b:Int):dv (if a<0 then -a else a) (if b<0 then -b else b)=dv a b:=by
 split <;> split <;> simp only [zrk,zrl]
theorem zte (g a b:Int) (h:0<=g):dv (g*a) (g*b)=g*dv a b:=by
 unfold dv; rw [Int.gcd_mul_left]
 have:((g.natAbs*a.gcd b:Nat):Int)=(g.natAbs:Int)*(a.gcd b:Nat):=by simp
 rw [this]; congr 1; omega
theorem zvl {a b:Int} (h:dv a b≠0):dv (a / dv a b) (b / dv a b) = 1:=by
 have hp:0<dv a b:=by have:=dv_nn a b; omega
 have e1:a=dv a b*(a / dv a b):=(Int.mul_ediv_cancel' (dv_l a b)).symm
 have e2:b=dv a b*(b / dv a b):=(Int.mul_ediv_cancel' (dv_r a b)).symm
 have e:dv a b=dv a b*dv (a / dv a b) (b / dv a b):=by
  have:=zte (dv a b) (a / dv a b) (b / dv a b) (Int.le_of_lt hp)
  rw [<- e1,<- e2] at this
  exact this
 have e':dv a b*1=dv a b*dv (a / dv a b) (b / dv a b):=by rw [Int.mul_one]; exact e
 exact (Int.eq_of_mul_eq_mul_left (by omega) e').symm
structure Fr (n d:Int):Prop where
 pos:0<d
 low:dv n d = 1
theorem zrm {n d x:Int} (h:dv n d = 1) (q:d ∣ n*x):d ∣ x:=by
 have h':Nat.Coprime d.natAbs n.natAbs:=by
  unfold dv at h
  have:Int.gcd n d = 1:=by omega
  unfold Nat.Coprime
  rw [Nat.gcd_comm]; exact this
 have q':d.natAbs ∣ n.natAbs*x.natAbs:=by rw [<- Int.natAbs_mul]; exact Int.natAbs_dvd_natAbs.mpr q
 exact Int.natAbs_dvd_natAbs.mp (h'.dvd_of_dvd_mul_left q')
theorem Fr.uniq {n d m e:Int} (h:Fr n d) (k:Fr m e) (q:n*e=m*d):n=m/\d=e:=by
 have h1:d ∣ e:=zrm h.low ⟨m,by rw [q,Int.mul_comm]⟩
 have h2:e ∣ d:=zrm k.low ⟨n,by rw [<- q,Int.mul_comm]⟩
 have e1:d=e:=Int.dvd_antisymm (Int.le_of_lt h.pos) (Int.le_of_lt k.pos) h1 h2
 subst e1
 have:=h.pos
 exact ⟨Int.eq_of_mul_eq_mul_right (by omega) q,rfl⟩
def rN (t b:Int):Int:=if b<0 then t / (-(dv t b)) else t / dv t b
def rD (t b:Int):Int:=if b<0 then b / (-(dv t b)) else b / dv t b
theorem zxm {t b:Int}:rN t b*(if b<0 then -(dv t b) else dv t b)=t:=by
 unfold rN
 split
 ·exact Int.ediv_mul_cancel (Int.neg_dvd.mpr (dv_l t b))
 ·exact Int.ediv_mul_cancel (dv_l t b)
theorem zxn {t b:Int}:rD t b*(if b<0 then -(dv t b) else dv t b)=b:=by
 unfold rD
 split
 ·exact Int.ediv_mul_cancel (Int.neg_dvd.mpr (dv_r t b))
 ·exact Int.ediv_mul_cancel (dv_r t b)
theorem zrn {t b:Int} (h:b≠0):rN t b*b=rD t b*t:=by
 have e1:=zxm (t:=t) (b:=b)
 have e2:=zxn (t:=t) (b:=b)
 generalize (if b<0 then -(dv t b) else dv t b)=c at e1 e2
 calc rN t b*b=rN t b*(rD t b*c):=by rw [e2]
  _=rD t b*(rN t b*c):=by rw [<- Int.mul_assoc,<- Int.mul_assoc,Int.mul_comm (rN t b)]
  _=rD t b*t:=by rw [e1]
theorem zxo {t b:Int} (h:b≠0):Fr (rN t b) (rD t b):=by
 have hp:=dv_pos (a:=t) h
 refine ⟨?_,?_⟩
 ·unfold rD
  by_cases hb:b<0
  ·rw [if_pos hb,Int.ediv_neg]
   obtain ⟨k,hk⟩:=dv_r t b
   have:b / dv t b=k:=Int.ediv_eq_of_eq_mul_right (by omega) hk
   rw [this]
   rcases Int.lt_or_le k 0 with q | q
   ·omega
   ·have:=Int.mul_nonneg (Int.le_of_lt hp) q; omega
  ·rw [if_neg hb]
   obtain ⟨k,hk⟩:=dv_r t b
   have:b / dv t b=k:=Int.ediv_eq_of_eq_mul_right (by omega) hk
   rw [this]
   rcases Int.lt_or_le 0 k with q | q
   ·exact q
   ·have:=Int.mul_nonneg_of_nonpos_of_nonpos (a:=-(dv t b)) (b:=k) (by omega) q
    rw [Int.neg_mul] at this
    omega
 ·have q:=zvl (a:=t) (b:=b) (by omega)
  unfold rN rD
  by_cases hb:b<0
  ·rw [if_pos hb,if_pos hb,Int.ediv_neg,Int.ediv_neg,zrk,zrl]; exact q
  ·rw [if_neg hb,if_neg hb]; exact q
def Sz (n:Nat) (x:Int):Prop:=x.natAbs<2 ^ n
theorem Sz.mono {m n:Nat} {x:Int} (h:Sz m x) (hm:m<=n):Sz n x:=Nat.lt_of_lt_of_le h (Nat.pow_le_pow_right (by decide) hm)
theorem Sz.neg {n:Nat} {x:Int} (h:Sz n x):Sz n (-x):=by unfold Sz at *; omega
theorem Sz.le {n:Nat} {x y:Int} (h:Sz n y) (k:x.natAbs<=y.natAbs):Sz n x:=Nat.lt_of_le_of_lt k h
theorem Sz.zero (n:Nat):Sz n 0:=Nat.two_pow_pos n
theorem Sz.dvd {n:Nat} {x y:Int} (h:Sz n y) (d:x ∣ y) (hy:y≠0):Sz n x:=by
 refine h.le ?_
 exact Nat.le_of_dvd (by omega) (Int.natAbs_dvd_natAbs.mpr d)
end Sw
namespace Sw
theorem Sz.lit {x:Int} (h:x.natAbs<1606938044258990275541962092341162602522202993782792835301376):Sz 5000 x:=by
 have e:(2:Nat) ^ 200 = 1606938044258990275541962092341162602522202993782792835301376:=by decide
 exact Nat.lt_of_lt_of_le (by rw [e]; exact h) (Nat.pow_le_pow_right (by decide) (by decide:200<=5000))
end Sw
namespace Sw
end Sw
namespace Sw
theorem Sz.r18 {x:Int} (h1:-100000000000000000000<x) (h2:x<100000000000000000000):Sz 70 x:=by
 have e:(2:Nat) ^ 70 = 1180591620717411303424:=by decide
 unfold Sz; rw [e]; omega
theorem Sz.one (n:Nat):Sz (n+1) 1:=by
 unfold Sz
 exact Nat.lt_of_lt_of_le (by decide:Int.natAbs 1<2 ^ 1) (Nat.pow_le_pow_right (by decide) (by omega))
end Sw
namespace L2
open PySem PySem.Spec PyProof.Rows
theorem zke {n:Nat} {x:Int} (h:Sw.Sz n x):Builtin.Int.intBits x<=n:=by
 unfold Builtin.Int.intBits
 split
 ·exact Nat.zero_le _
 ·rename_i hx
  have hx':x≠0:=by simpa using hx
  have:x.natAbs.log2<n:=(Nat.log2_lt (by omega)).mpr h
  omega
def CMulL (i j:Int):Prop:=Sw.Sz 5000 i/\Sw.Sz 5000 j
def CDivL (i j:Int):Prop:=0<j/\Sw.Sz 5000 j
def CDivS (i j:Int):Prop:=j≠0/\Sw.Sz 5000 j
theorem zmg {i j:Int} (h0:j≠0) (h:Sw.Sz 5000 j):Builtin.divisionGoesByPylong i j=false:=by
 refine PyProof.noPylong_of_log2 ?_
 have:j.natAbs.log2<5000:=(Nat.log2_lt (by omega)).mpr h
 omega
section
variable {X:Cx}
theorem zhj:OpR X (binaryOp .Mult) (rI CMulL fun i j=>.int (i*j)):=opI fun _ _ _ _ _ _ _ hc q =>
 mul_int q (IntMulOk.of_bits (Nat.le_trans (zke hc.1) (by decide)) (Nat.le_trans (zke hc.2) (by decide)))
theorem zfo:OpR X (binaryOp .FloorDiv) (rI CDivL fun i j=>.int (i / j)):=opI fun i j _ _ _ _ _ hc q=>by
 have h1:(0:Int)<j:=hc.1
 exact floordiv_int (by omega) (by rw [Int.fdiv_eq_ediv_of_nonneg i (by omega)]; exact q) (.inl (zmg (by omega) hc.2))
theorem zor:OpR X (binaryOp .FloorDiv) (rI CDivS fun i j=>.int (i.fdiv j)):=opI fun _ _ _ _ _ _ _ hc q=>floordiv_int hc.1 q (.inl (zmg hc.1 hc.2))
def clsV:V->Option Value
 | .ty n=>some (.type n)
 | .ref a=>some (.ref a)
 | _=>none
structure Def (P:Program) (w:World) (K:PySem.W.Frag) (mg:Str->Option Value) (base:Heap) (CX:CXT) (k:Nat) (x:Str) (ps:List Str) (sp:Sp):Prop where
 ex:∃ (f:Addr) (fd:FuncData),FnOk P w K mg base CX k f fd ps sp/\Binds K fd ps []/\PySem.W.keepIn K (.ref f)=true/\mg x=some (.ref f)
structure Src (K:PySem.W.Frag) (mg:Str->Option Value) (x:Str) (st:Stmt) (ps:List Str):Prop where
 ex:∃ (f:Addr) (fd:FuncData),Fun K x x st f fd/\Binds K fd ps []/\mg x=some (.ref f)
end
end L2
namespace L2
theorem zmh {c:TT} {tb:TS} {D:Ends} {σ:St} {H:Hp} (Pv:St->Hp->Prop) (μ:St->Hp->Nat) (h0:Pv σ H)
    (hs:∀ σ H,Pv σ H->∃ b:Bool,(∀ Q:Bool->Hp->Prop,Q b H->c σ H Q)/\(b=true->tb { D with nx:=fun σ' H'=>Pv σ' H'/\μ σ' H' < μ σ H,ct:=fun σ' H'=>Pv σ' H'/\μ σ' H' < μ σ H,bk:=D.nx } σ H)/\(b=false->D.nx σ H)):zqu c tb D σ H:=by
  refine ⟨fun m σ H=>m = μ σ H/\Pv σ H,⟨_,rfl,h0⟩,?_⟩
  rintro m σ H ⟨rfl,p⟩
  obtain ⟨b,hc,h1,h2⟩:=hs σ H p
  refine hc _ ?_
  cases b with
  | true=>exact ⟨_,fun σ' H' ⟨p',l⟩=>⟨_,l,rfl,p'⟩,h1 rfl⟩
  | false=>exact h2 rfl
end L2
namespace L2
open PySem PySem.Spec PyProof.Rows
theorem zgu {X:Cx} {x:Str} {n:Int} {pos:Pos} (hg:Gl X x) (hm:∃ t,X.mg x=some (.int n t)) (hd:(x == ("__debug__" : Str))=false:=by decide):PE X (.Name x pos) (tC (.int n)):=by
 obtain ⟨t,hm⟩:=hm
 exact zfi hg hm ⟨t,rfl⟩ hd
def spLaw (K:PySem.W.Frag):Sp:=fun vs H Q _=>∃ (a:Addr) (ns:List Int),vs = [.ref a]/\SqL K H a (ns.map V.int)/\ns.length<=63/\∀ H',Q (.bl true) H'
end L2
namespace L2
open PySem PySem.Spec PyProof.Rows
def spInt1 (g:Int->Int):Sp:=fun vs H Q _=>∃ a,vs = [.int a]/\Q (.int (g a)) H
def spInt2 (g:Int->Int->Int):Sp:=fun vs H Q _=>∃ a b,vs = [.int a,.int b]/\Q (.int (g a b)) H
def cellI (ns:List Int) (k:Int):Int:=(ns[k.toNat]?).getD 0
def zuk (K:PySem.W.Frag):Sp:=fun vs H Q _=>∃ a ns k,vs = [.ref a,.int k]/\SqL K H a (ns.map V.int)/\0<=k/\Q (.int (cellI ns k)) H
theorem zqc {ns:List Int} {k:Int} (h0:0<=k) (h:k<ns.length):atI (ns.map V.int) k=some (V.int (cellI ns k)):=by
 have e:((k.toNat:Nat):Int)=k:=by omega
 have hl:k.toNat<ns.length:=by omega
 have q:(ns.map V.int)[k.toNat]? = some (V.int (cellI ns k)):=by
  rw [List.getElem?_map]
  unfold cellI
  rw [List.getElem?_eq_getElem hl]
  rfl
 have:=zhi q
 rw [e] at this
 exact this
theorem znr {ns:List Int} {k:Int} (h0:0<=k) (h:¬ k<ns.length):cellI ns k = 0:=by
 unfold cellI
 rw [List.getElem?_eq_none (by omega)]
 rfl
def spWhole:Sp:=fun vs H Q _=>∃ n,vs = [.int n]/\Q (.bl true) H
end L2
namespace L2
theorem zae {t u:TS} {D:Ends} {σ:St} {H:Hp} (h:∀ R:St->Hp->Prop,(∀ σ H,u D σ H->R σ H)->t { D with nx:=R } σ H):tSeq t u D σ H:=h (u D) fun _ _ x=>x
end L2
namespace L2
open PySem PySem.Spec PyProof.Rows
theorem zmi {K:PySem.W.Frag} {H:Hp} {a:Addr} {ns:List Int} {k:Int} {Q:VK} {E:XK} (hS:SqL K H a (ns.map V.int)) (h0:0<=k) (q:Q (.int (cellI ns k)) H):zuk K [.ref a,.int k] H Q E:=⟨a,ns,k,rfl,hS,h0,q⟩
end L2
namespace L2
theorem cmulL_lit {a b:Int} (h1:a.natAbs<1606938044258990275541962092341162602522202993782792835301376) (h2:b.natAbs<1606938044258990275541962092341162602522202993782792835301376):CMulL a b:=⟨Sw.Sz.lit h1,Sw.Sz.lit h2⟩
theorem cdivL_lit {a b:Int} (h0:0<b) (h2:b.natAbs<1606938044258990275541962092341162602522202993782792835301376):CDivL a b:=⟨h0,Sw.Sz.lit h2⟩
end L2
namespace L2
open PySem
theorem line_lit {n:Nat} (h:n<=1000):n<=sizeLine:=Nat.le_trans h (by decide)
theorem line_lt {n:Nat} (h:n<1000):n<sizeLine:=Nat.lt_of_lt_of_le h (by decide)
end L2
namespace L2
open PySem
theorem zkf {K:PySem.W.Frag} {H:Hp} {p:Addr} {xs:List V} {i:Int} {v:V} {Q:VK} (hT:SqT K H p xs) (h:atI xs i=some v) (q:Q v H):rIxT K (.ref p) (.int i) H Q:=⟨p,xs,i,v,rfl,rfl,hT,h,q⟩
theorem zgj {K:PySem.W.Frag} {H:Hp} {p:Addr} {xs:List V} {i:Int} {v:V} {Q:VK} (hT:SqL K H p xs) (h:atI xs i=some v) (q:Q v H):rIxL K (.ref p) (.int i) H Q:=⟨p,xs,i,v,rfl,rfl,hT,h,q⟩
end L2
namespace L2
open PySem PySem.Spec PyProof.Rows
end L2
namespace L2
theorem iteN {c A B:Prop} [Decidable c] (hc:¬ c) (h:B):if c then A else B:=by rw [if_neg hc]; exact h
end L2
namespace L2
end L2
namespace L2
open PySem PySem.Spec PyProof.Rows
mutual
inductive Deep (K:PySem.W.Frag) (H:Hp):V->PyData->Prop
 | non:Deep K H .non .none
 | bl (b:Bool):Deep K H (.bl b) (.bool b)
 | int (i:Int):Deep K H (.int i) (.int i)
 | str (x:Str):Deep K H (.str x) (.str x)
 | tup {a:Addr} {xs:List V} {ds:List PyData}:SqT K H a xs->DeepAll K H xs ds->Deep K H (.ref a) (.tuple ds)
 | lst {a:Addr} {xs:List V} {ds:List PyData}:SqL K H a xs->DeepAll K H xs ds->Deep K H (.ref a) (.list ds)
inductive DeepAll (K:PySem.W.Frag) (H:Hp):List V->List PyData->Prop
 | nil:DeepAll K H [] []
 | cons {x:V} {d:PyData} {xs:List V} {ds:List PyData}:Deep K H x d->DeepAll K H xs ds->DeepAll K H (x :: xs) (d :: ds)
end
section
variable {X:Cx} {pins:List (Addr×Obj)} {σ:St} {H:Hp} {s:Shared}
mutual
theorem zhk (I:Inv X pins σ H s):∀ {x:V} {d:PyData} {u:Value},Deep X.K H x d->RelV x u->∃ as,Reads s.heap u d as
 | _,_,u,.non,r=>by cases (show u=Value.none from r); exact ⟨_,.none⟩
 | _,_,u,.bl b,r=>by cases (show u=Value.bool b from r); exact ⟨_,.bool b⟩
 | _,_,u,.int i,r=>by obtain ⟨t,rfl⟩:=(show ∃ t,u=Value.int i t from r); exact ⟨_,.int i t⟩
 | _,_,u,.str x,r=>by obtain ⟨t,rfl⟩:=(show ∃ t,u=Value.str x t from r); exact ⟨_,.str x t⟩
 | _,_,u,.tup (a:=a) q h,r=>by
  cases (show u=Value.ref a from r)
  obtain ⟨its,rv,⟨o,e,c,n,d⟩,hz⟩:=I.tuple q
  obtain ⟨as,ra⟩:=zfp I h rv
  exact ⟨as,reads_tuple_at e c d (by simpa using ra)⟩
 | _,_,u,.lst (a:=a) q h,r=>by
  cases (show u=Value.ref a from r)
  obtain ⟨its,rv,⟨o,n,e,c,_,d⟩,hz⟩:=I.list q
  obtain ⟨as,ra⟩:=zfp I h rv
  exact ⟨_,reads_list_at e c d (by simpa using ra)⟩
theorem zfp (I:Inv X pins σ H s):∀ {xs:List V} {ds:List PyData} {us:List Value},DeepAll X.K H xs ds->Vals xs us->∃ as,ReadsAll s.heap us ds as
 | _,_,_,.nil,.nil=>⟨_,.nil⟩
 | _,_,_,.cons d h,.cons r t=>by
  obtain ⟨as,q⟩:=zhk I d r
  obtain ⟨bs,p⟩:=zfp I h t
  exact ⟨_,.cons q p⟩
end
end
section
variable {X:Cx}
def rEqD (K:PySem.W.Frag):R2:=fun x y H Q=>∃ d e,Deep K H x d/\Deep K H y e/\PySem.SeqAt.shaped d=true/\PySem.SeqAt.shaped e=true/\Q (.bl (PyData.eqv d e)) H
theorem zxp (hu:X.A.units+64<cLine):OpR X (compareOp .Eq) (rEqD X.K):=by
 intro pins s σ H x y v u Q I rx ry h
 obtain ⟨d,e,hd,he,sd,se,q⟩:=h
 obtain ⟨as,ra⟩:=zhk I hd rx
 obtain ⟨bs,rb⟩:=zhk I he ry
 exact eq_dataH ra rb sd se hu ⟨.bl _,H,I,rfl,q⟩
end
theorem zak {H:Hp} {a:Addr} {o:HO} (h:H a=none):Same H (upd H a o):=fun b u e=>by rw [zai (zao e h)]; exact e
end L2
namespace L2
open PySem PySem.Spec PyProof.Rows
def Ite (K:PySem.W.Frag) (a:Addr):It :=
  ⟨fun i H=>∃ xs x,SqL K H a xs/\xs[i]? = some x,
   fun i H y H'=>∃ p x,y = .ref p/\H p=none/\(∀ xs,SqL K H a xs->xs[i]? = some x)/\H'=upd H p (.tup [.int i,x]),
   fun i H=>∃ xs,SqL K H a xs/\xs.length<=i⟩
section
variable {X:Cx}
def iEnum (K:PySem.W.Frag) (ta:TA):TI:=fun σ H R=>ta σ H fun vs H1=>∃ a,vs = [.ref a]/\(∃ xs,SqL K H1 a xs)/\R (Ite K a) H1
end
section
variable {prog:Program} {w:World} {A:Around} {R:Result->Shared->Prop} {s:Shared}
theorem zfa {elt target iter:Expr} {ifs:List Expr} {scope:Scope} {pos:Pos} {it acc:Value} {env:Env} (I:Nat->Shared->Prop)
    (turn:∀ n s,I n s->wpAny (model prog w) A (pyNext it) (fun r s₁=>match r with
      | none=>R (.ok .next) s₁
      | some v=>wpAny (model prog w) A (letOwnedTupleGo target it v) (fun _ s₁'=>wpAny (model prog w) A (assign target env v) (fun _ s₂ =>
          wpAny (model prog w) A (forIn ifs true fun c r=>if r=true then do let ok <- isTrue c env (eval c env); pure (ForInStep.yield ok) else pure (ForInStep.yield r)) (fun ok s₃ =>
            if ok=true then wpAny (model prog w) A (eval elt env) (fun x s₄ =>
              wpAny (model prog w) A (call (.builtin "list.append") [acc,x]) (fun _ s₅=>∃ m,m<n/\I m s₅) (notedBy (model prog w) A env fun e s'=>R (.error e) s') s₄) (notedBy (model prog w) A env fun e s'=>R (.error e) s') s₃
            else ∃ m,m<n/\I m s₃) (notedBy (model prog w) A env fun e s'=>R (.error e) s') s₂) (notedBy (model prog w) A env fun e s'=>R (.error e) s') s₁') (notedBy (model prog w) A env fun e s'=>R (.error e) s') s₁) (notedBy (model prog w) A env fun e s'=>R (.error e) s') s)
    (n:Nat) (h:I n s) :
    codeAny (model prog w) A (.compLoop (.ListComp elt [⟨target,iter,ifs,0⟩] scope pos) 0 it acc env) R s:=by
  refine codeAny_loop rfl I (fun n s hI=>?_) n h
  show wpAny _ A ((compTurn (.ListComp elt [⟨target,iter,ifs,0⟩] scope pos) 0 it acc env).onRaise (fun x=>do noteFrame x env; theTreesLotGoes x)) _ _ s
  refine wpAny_noted ?_
  rw [compTurn_list]
  refine wpAny_bind (wpAny_standAt (wpAny_bind (wpAny_mono (turn n s hI) (fun r s₁ h₁=>?_) fun _ _ h'=>h')))
  cases r with
  | none=>exact wpAny_pure h₁
  | some v =>
    refine wpAny_bind (wpAny_mono h₁ (fun _ s₁' h₁'=>?_) fun _ _ h'=>h')
    refine wpAny_bind (wpAny_mono h₁' (fun _ s₂ h₂=>wpAny_bind (wpAny_mono h₂ (fun ok s₃ h₃=>?_) fun _ _ h'=>h')) fun _ _ h'=>h')
    cases ok with
    | false=>exact wpAny_pure ⟨rfl,h₃⟩
    | true =>
      exact wpAny_bind (wpAny_bind (wpAny_mono h₃ (fun x s₄ h₄=>wpAny_bind (wpAny_mono h₄ (fun _ s₅ h₅=>wpAny_pure (wpAny_pure ⟨rfl,h₅⟩)) fun _ _ h'=>h')) fun _ _ h'=>h'))
end
def zcu (X:Cx) (scope:Scope) (cl:List (Str×Addr)) (N:List Str) (fp:List Addr) (s:Shared) (H:Hp):Cx :=
 { X with N:=N,s₀:=s,H₀:=H,env:=compEnvC scope cl s.heap.objs.size X.env,outer:=X.stack,stack:=X.stack,ex:=fp,fn:=fun _=>false,pn:=[],xe:=fun _ _=>False }
def FrOk (X:Cx) (sc:Scope):List (Str×Nat)->Prop
 | []=>True
 | p :: r=>(X.N[p.2]? = some p.1/\sc.names.lookup p.1=some .cell/\X.env.kindOf p.1=some .cell)/\FrOk X sc r
theorem FrOk.mem {X:Cx} {sc:Scope}:∀ {l:List (Str×Nat)},FrOk X sc l->∀ p∈l,X.N[p.2]? = some p.1/\sc.names.lookup p.1=some .cell/\X.env.kindOf p.1=some .cell
 | [],_,p,hp=>nomatch hp
 | q :: r,h,p,hp=>by
  rcases List.mem_cons.mp hp with e | hp
  ·rw [e]; exact h.1
  ·exact FrOk.mem h.2 p hp
def PIfs (X:Cx) (ifs:List Expr) (t:TT):Prop :=
 ∀ (pins:List (Addr×Obj)) (s:Shared) (σ:St) (H:Hp) (Q:Bool->Hp->Prop),Inv X pins σ H s->t σ H Q ->
  wpAny (model X.prog X.w) X.A (forIn ifs true fun c r=>if r=true then do let ok <- isTrue c X.env (eval c X.env); pure (ForInStep.yield ok) else pure (ForInStep.yield r)) (TP X pins σ Q) X.xe s
def tYes:TT:=fun _ H Q=>Q true H
theorem zos {X:Cx}:PIfs X [] tYes:=fun _ _ _ H _ I h=>wpAny_tests_nil ⟨H,I,h⟩
theorem zot {X:Cx} {c:Expr} {t:TT} (hc:PT X c t):PIfs X [c] t:=fun pins s σ H Q I h=>wpAny_tests_one (hc pins s σ H Q I h)
def tComp (nt:Nat) (fr:List (Str×Nat)) (wi:TI) (g:TG) (tc:TT) (te:TE):TE:=fun σ H Q=>wi σ H fun J H1=>∀ D,H1 D=none->∃ W:Nat->Nat->St->Hp->Prop,
 (∃ m,W 0 m (List.replicate nt none++fr.map fun p=>(σ[p.2]?).join) (upd H1 D (.lst [])))/\∀ i m τ H',W i m τ H' ->
  (J.stop i H'/\Q (.ref D) H')\/(J.go i H'/\∃ N:St->Hp->Prop,(∀ τ' H'',N τ' H''->∃ m',m' < m/\W (i+1) m' τ' H'') /\
   ∀ x H2,J.yld i H' x H2->g x τ H2 fun τ2 H3=>tc τ2 H3 fun b H4=>if b=true then te τ2 H4 fun y H5=>∃ ys,H5 D=some (.lst ys)/\ys.length<sizeLine/\N τ2 (upd H5 D (.lst (ys++[y]))) else N τ2 H4)
section
variable {X:Cx}
theorem zou {scope:Scope} {cl:List (Str×Addr)} {ts:List Str} {fr:List (Str×Nat)} {fp:List Addr} {pins:List (Addr×Obj)} {σ:St} {H:Hp} {s:Shared} {h':Heap} {m:Str->Option Value} {t':Nat} (I:Inv X pins σ H s)
    (hkind:scope.kind = .function) (hcl:∀ x c,cl.lookup x=some c->X.env.cells.lookup x=some c)
    (hhas:∀ x,((relabel scope X.env).names.lookup x=some .cell\/(relabel scope X.env).names.lookup x=some .free)->∃ c,cl.lookup x=some c) (hfr:FrOk X (relabel scope X.env) fr)
    (hfp:∀ b∈fp,FpOk X pins H b/\b<s.heap.objs.size) (hn:h'.Ns s.heap.objs.size m) (hk:∀ b o,s.heap.get? b=some o->h'.get? b=some o) :
    Inv (zcu X scope cl (ts++fr.map (·.1)) fp s H) [] (List.replicate ts.length none++fr.map fun p=>(σ[p.2]?).join) H { s with heap:=h',toks:=t' }:=by
  have cellK:∀ c v,s.heap.IsCell c v->h'.IsCell c v:=fun c v ⟨o,ho,hd⟩=>⟨o,hk c o ho,hd⟩
  refine ⟨⟨I.ok.mod,hkind,I.ok.glob,I.ok.blt,Nat.le_refl _,fun x y c h1 h2=>I.ok.inj x y c (hcl x c h1) (hcl y c h2),hhas,fun x c h=>(by cases h),I.ok.hd,I.ok.frames,.inl rfl,fun b hb=>?_,I.bs,Nat.le_trans I.ok.bsz I.sz,fun b o e hb=>?_,fun b hb z=>?_,I.stack,I.stkFree⟩,
    rfl,I.bare,Un.kept hk,⟨m,hn,fun i x v e1 e2 e3=>?_⟩,fun x c e=>?_,I.hok.fresh (Nat.le_refl _),fun x c e=>I.freeC x c (hcl x c e),fun p hp=>absurd (show p∈([]:List (Addr×Obj)) from hp) (by simp),I.hok.kept hk,?_⟩
  · obtain ⟨f,lt⟩:=hfp b hb
    exact ⟨Nat.ne_of_lt lt,fun x c e=>f.2.2.2.2.1 x c (hcl x c e)⟩
  · obtain ⟨f,lt⟩:=hfp b hb
    rcases f.2.2.2.1 with z | z
    · exact I.ok.noex b o e z
    · exact absurd (Nat.lt_of_lt_of_le (Heap.lt_size e) (Nat.le_trans I.ok.bsz z)) (Nat.lt_irrefl _)
  · obtain ⟨f,lt⟩:=hfp b hb
    rcases List.mem_cons.mp (I.stkSub b z) with y | y
    · exact f.2.1 y
    · exact f.2.2.1 y
  · have hlen:(List.replicate ts.length (none:Option V)).length=ts.length:=by simp
    by_cases hi:i<ts.length
    · rw [List.getElem?_append_left (by rw [hlen]; exact hi),List.getElem?_replicate,if_pos hi] at e2
      cases e2
    · rw [List.getElem?_append_right (by rw [hlen]; omega),hlen,List.getElem?_map] at e2
      have e1':(ts++fr.map (·.1))[i]? = some x:=e1
      rw [List.getElem?_append_right (by omega),List.getElem?_map] at e1'
      cases ep:fr[i-ts.length]? with
      | none=>rw [ep] at e2; cases e2
      | some p =>
        rw [ep] at e1' e2
        have ex:p.1=x:=Option.some.inj e1'
        have ev:(σ[p.2]?).join=some v:=Option.some.inj e2
        obtain ⟨a1,a2,a3⟩:=hfr.mem p (List.mem_of_getElem? ep)
        have ev':σ[p.2]? = some (some v):=by
          cases q:σ[p.2]? with
          | none=>rw [q] at ev; cases ev
          | some o=>rw [q] at ev; cases o with
            | none=>cases ev
            | some v'=>cases ev; rfl
        obtain ⟨m',hn',hl'⟩:=I.loc
        obtain ⟨u,ru,lk⟩:=hl' p.2 p.1 v a1 ev' (.inr (.inl a3))
        subst ex
        refine ⟨u,ru,?_⟩
        rcases lk with ⟨z,_⟩ | ⟨_,c,ec,z⟩
        · rw [z] at a3; cases a3
        · obtain ⟨c',ec'⟩:=hhas p.1 (.inl a2)
          have ecc:c'=c:=Option.some.inj ((hcl _ _ ec').symm.trans ec)
          exact .inr ⟨.inl a2,c',ec',(by rw [ecc]; exact cellK _ _ z)⟩
  · obtain ⟨v,z⟩:=I.cell x c (hcl x c e)
    exact ⟨v,cellK _ _ z⟩
  · show _=(ts++fr.map (·.1)).length
    simp
theorem zvm {elt target iter:Expr} {ifs:List Expr} {scope:Scope} {pos:Pos} {cl:List (Str×Addr)} {ts:List Str} {fr:List (Str×Nat)} {wi:TI} {g:TG} {tc:TT} {te:TE} (hcalm:X.calm=true)
    (hclos:closureFor scope X.env=pure cl) (hcell:∀ y∈scope.names,y.2≠.cell) (hkind:scope.kind = .function) (hnames:∀ y∈scope.names,y.2 = .local->scope.names.lookup y.1=some .local)
    (hcl:∀ x c,cl.lookup x=some c->X.env.cells.lookup x=some c)
    (hhas:∀ x,((relabel scope X.env).names.lookup x=some .cell\/(relabel scope X.env).names.lookup x=some .free)->∃ c,cl.lookup x=some c) (hfr:FrOk X (relabel scope X.env) fr)
    (hi:PI X target iter wi) (hg:∀ fp s H,PG (zcu X scope cl (ts++fr.map (·.1)) fp s H) target g) (hc:∀ fp s H,PIfs (zcu X scope cl (ts++fr.map (·.1)) fp s H) ifs tc)
    (he:∀ fp s H,PE (zcu X scope cl (ts++fr.map (·.1)) fp s H) elt te) (hs:∀ x,foldedSetIterable iter X.env x=pure x:=by intro _; rfl) :
    PE X (.ListComp elt [⟨target,iter,ifs,0⟩] scope pos) (tComp ts.length fr wi g tc te):=by
  intro pins s σ H Q I h
  rw [eval_ListComp]
  refine wpAny_comprehension_free (use:=none) rfl hs hclos hkind hnames (thn (hi pins s σ H _ I h) fun xv s1 h1=>thn h1 fun itv s2 h2=>?_)
  obtain ⟨it,fp,tn,J,H2,rfl,I2,T,st2,f2,hR⟩:=h2
  have D0:H2 s2.heap.objs.size=none:=I2.hok.fresh (Nat.le_refl _)
  obtain ⟨W,⟨m0,w0⟩,turn⟩:=hR s2.heap.objs.size D0
  refine wpAny_newObj_type (wpAny_newFunctionEnv hcell (by intro y hy; simp at hy) (fun h₁ hns₁ hsb₁=>?_) hkind)
  dsimp only at hns₁ hsb₁ ⊢
  have I3:Inv X pins σ (upd H2 s2.heap.objs.size (.lst [])) { s2 with heap:=s2.heap.push { cls:=.type "list", dict:=none,data:=.seq ([]:List Value).toArray } } :=
    I2.laid (t':=s2.toks) (fun _ _ q=>Heap.get?_push_of_some _ q) (Nat.le_refl _) ⟨Nat.zero_le _,[],0,.nil,Heap.get?_push_size _ rfl⟩
  have kp3:∀ b o,s2.heap.get? b=some o->(s2.heap.push { cls:=.type "list", dict:=none,data:=.seq ([]:List Value).toArray }).get? b=some o:=fun b o q=>Heap.get?_push_of_some _ q
  have sz3:(s2.heap.push { cls:=.type "list", dict:=none,data:=.seq ([]:List Value).toArray }).objs.size=s2.heap.objs.size+1:=Heap.size_push ..
  generalize s2.heap.push { cls:=.type "list", dict:=none,data:=.seq ([]:List Value).toArray } = hp3 at hns₁ hsb₁ I3 kp3 sz3 ⊢
  have kp:∀ b o,hp3.get? b=some o->h₁.get? b=some o:=fun b o e=>hsb₁.extBut b o (Nat.ne_of_lt (Heap.lt_size e)) (Heap.get?_push_of_some _ e)
  have flt:∀ b∈fp,b<s2.heap.objs.size:=fun b hb=>by
    obtain ⟨o,e,_⟩:=T.obj _ _ st2 b hb
    exact Heap.lt_size e
  have fr3:∀ b∈fp,(upd H2 s2.heap.objs.size (.lst [])) b=none:=fun b hb=>by rw [zai (Nat.ne_of_lt (flt b hb))]; exact (f2 b hb).1
  have f3:∀ b∈fp,FpOk X pins (upd H2 s2.heap.objs.size (.lst [])) b/\b<hp3.objs.size:=fun b hb=>⟨⟨fr3 b hb,(f2 b hb).2⟩,by rw [sz3]; exact Nat.lt_succ_of_lt (flt b hb)⟩
  have I4:=zou (ts:=ts) (t':=s2.toks+([]:List (Str×Value)).length) I3 hkind hcl hhas hfr f3 hns₁ kp
  have st4:tn 0 h₁:=T.keep _ _ _ st2 fun b hb o e=>kp b o (kp3 b o e)
  have loop:codeAny (model X.prog X.w) X.A (.compLoop (.ListComp elt [⟨target,iter,ifs,0⟩] scope pos) 0 (.ref it) (.ref s2.heap.objs.size) (compEnvC scope cl hp3.objs.size X.env))
      (compPost (model X.prog X.w) X.A X.xe none (EP X pins σ Q) (.ref s2.heap.objs.size) hp3.objs.size) { s2 with heap:=h₁,toks:=s2.toks+([]:List (Str×Value)).length }:=by
    refine zfa (fun n s'=>∃ i τ H',Inv (zcu X scope cl (ts++fr.map (·.1)) fp { s2 with heap:=hp3 } (upd H2 s2.heap.objs.size (.lst []))) [] τ H' s'/\tn i s'.heap/\(∀ b∈fp,H' b=none)/\W i n τ H') ?_ m0 ⟨0,_,_,I4,st4,fr3,w0⟩
    rintro n s5 ⟨i,τ,H5,I5,st5,fr5,w5⟩
    have stat:∀ {H':Hp},(∀ b∈fp,H' b=none)->∀ b∈fp,FpOk (zcu X scope cl (ts++fr.map (·.1)) fp { s2 with heap:=hp3 } (upd H2 s2.heap.objs.size (.lst []))) [] H' b :=
      fun hn b hb=>⟨hn b hb,(I5.ok.exf b hb).1,I5.ok.exfs b hb,.inl hb,(I5.ok.exf b hb).2,fun p hp=>absurd (show p∈([]:List (Addr×Obj)) from hp) (by simp)⟩
    rcases turn i n τ H5 w5 with ⟨stop,qn⟩ | ⟨go,Nn,hN,step⟩
    · refine thn (T.done (zcu X scope cl (ts++fr.map (·.1)) fp { s2 with heap:=hp3 } (upd H2 s2.heap.objs.size (.lst []))) rfl rfl rfl hcalm i [] s5 τ H5 _ I5 (stat fr5) st5 stop) fun r s6 ⟨hr,I6⟩=>?_
      subst hr
      obtain ⟨m,hn,_⟩:=I6.loc
      refine ⟨m,hn,fun h' hs'=>⟨.ref s2.heap.objs.size,H5,?_,rfl,qn⟩⟩
      have neC:∀ b o,hp3.get? b=some o->b≠hp3.objs.size:=fun b o e=>Nat.ne_of_lt (Heap.lt_size e)
      have hs'':Heap.SameBut hp3.objs.size s6.heap h':=hs'
      refine I3.call' (s':={ s6 with heap:=h' }) (ch:=fp) I6.os ⟨fun b o e n hb hx=>?_,fun b o e n hb hx=>?_,I6.base.free,fun b o e hx=>?_,I6.base.tups,I6.base.frzs,I6.base.tbls⟩ (fun b ob e=>?_) I6.bare (fun b hb=>?_)
      · exact (hs''.2 b (neC b o e)).trans (I6.base.keep b o e n hb hx)
      · obtain ⟨sl,q⟩:=I6.base.slot b o e n hb hx
        exact ⟨sl,(hs''.2 b (neC b o e)).trans q⟩
      · obtain ⟨o',q⟩:=I6.base.there b o e hx
        exact ⟨o',(hs''.2 b (neC b o e)).trans q⟩
      · refine (I6.hok b ob e).stay (fun c v hc q=>(hs''.2 c ?_).trans q) (fun _ q=>q) fun _ _ q=>q
        intro z
        have fz:H5 hp3.objs.size=none:=I6.free
        rcases hc with y | y
        · rw [<- y,z,fz] at e; cases e
        · rw [z,fz] at y; cases y
      · exact ⟨(f2 b hb).2.2.2.1,(f2 b hb).2.1,(f2 b hb).2.2.2.2.1,(f2 b hb).2.2.2.2.2⟩
    · refine thn (T.item (zcu X scope cl (ts++fr.map (·.1)) fp { s2 with heap:=hp3 } (upd H2 s2.heap.objs.size (.lst []))) rfl rfl rfl hcalm i [] s5 τ H5 _ I5 (stat fr5) st5 go) fun r s6 ⟨u,hr,h6⟩=>?_
      subst hr
      refine thn h6 fun _ s7 ⟨x,H7,I7,r7,y7,st7,fr7⟩=>?_
      have I7':=I7.pinned (stat fr7) (T.obj _ _ st7)
      refine wpAny_mono (hg fp _ _ _ s7 τ H7 x u _ I7' r7 (step x H7 y7)) (fun _ s8 ⟨τ8,H8,I8,q8⟩=>?_) fun _ _ z=>False.elim z
      have again:∀ {τ9:St} {H9:Hp} {s9:Shared},Inv (zcu X scope cl (ts++fr.map (·.1)) fp { s2 with heap:=hp3 } (upd H2 s2.heap.objs.size (.lst []))) ([]++zka fp s7.heap) τ9 H9 s9->Nn τ9 H9 ->
          ∃ m,m<n/\∃ i τ H',Inv (zcu X scope cl (ts++fr.map (·.1)) fp { s2 with heap:=hp3 } (upd H2 s2.heap.objs.size (.lst []))) [] τ H' s9/\tn i s9.heap/\(∀ b∈fp,H' b=none)/\W i m τ H':=fun {τ9 H9 s9} I9 n9=>by
        obtain ⟨m',hm,w9⟩:=hN τ9 H9 n9
        refine ⟨m',hm,i+1,τ9,H9,I9.unpinned,T.keep _ _ _ st7 fun b hb o e=>(I9.pin (b,o) (List.mem_append_right _ (List.mem_append_right _ (zez hb e)))).1,fun b hb=>?_,w9⟩
        obtain ⟨o,e,d⟩:=T.obj _ _ st7 b hb
        exact (I9.pin (b,o) (List.mem_append_right _ (List.mem_append_right _ (zez hb e)))).2.1
      refine wpAny_mono (hc fp _ _ _ s8 τ8 H8 _ I8 q8) (fun ok s9 ⟨H9,I9,q9⟩=>?_) fun _ _ z=>False.elim z
      cases ok with
      | false=>exact again I9 q9
      | true =>
        refine wpAny_mono (he fp _ _ _ s9 τ8 H9 _ I9 q9) (fun y s10 ⟨v,H10,I10,rv,ys,hD,hl,qN⟩=>?_) fun _ _ z=>False.elim z
        refine wpAny_mono (zfu (X:=zcu X scope cl (ts++fr.map (·.1)) fp { s2 with heap:=hp3 } (upd H2 s2.heap.objs.size (.lst []))) _ s10 τ8 H10 (.ref s2.heap.objs.size) [v] (.ref s2.heap.objs.size) [y] (fun _ H=>Nn τ8 H) I10 rfl (.cons rv .nil) ⟨_,ys,v,rfl,rfl,hD,hl,qN⟩) (fun _ s11 ⟨_,H11,I11,_,q11⟩=>again I11 q11) fun _ _ z=>False.elim z
  exact codeAny_compStart_list loop (T.self X.A 0 _ _ _ st4 loop)
end
end L2
namespace L2
open PySem PySem.Spec PyProof.Rows
section
variable {X:Cx} {tg:Expr}
theorem zaz (K:PySem.W.Frag) (h:X.K=K):IxR X (rIxL K):=h ▸ zvi
theorem zhl (K:PySem.W.Frag) (h:X.K=K):IxR X (rIxT K):=h ▸ zxg
theorem zih (K:PySem.W.Frag) (h:X.K=K):SlR X (rSlL K):=h ▸ zvj
def rLen (K:PySem.W.Frag):List V->Hp->VK->Prop:=fun xs H Q=>∃ p ys,xs = [.ref p]/\(SqL K H p ys\/SqT K H p ys)/\Q (.int ys.length) H
theorem zfv (K:PySem.W.Frag) (h:X.K=K):CallR X (.builtin "len") (rLen K):=h ▸ zmc
theorem zvn (K:PySem.W.Frag) (h:X.K=K) {es:List Expr} {k:Nat} {pos:Pos} {t:TGs} {n:Nat} (hc:X.calm=true) (hq:PGs X es t)
    (hn:(assignEach es X.env).length=n:=by rfl) (hst:(assignEach es X.env).findIdx? (·.1)=none:=by rfl):PG X (.Tuple es k pos) (gTup K n t):=h ▸ zxc hc hq hn hst
theorem zkp (K:PySem.W.Frag) (h:X.K=K) {l:Expr} {tl:TE} (hl:PE X l tl):PI X tg l (iList K tl):=h ▸ zvd hl
end
def ClOk (env:Env):List (Str×Addr)->Prop
 | []=>True
 | p :: r=>env.cells.lookup p.1=some p.2/\ClOk env r
theorem ClOk.get {env:Env}:∀ {cl:List (Str×Addr)},ClOk env cl->∀ x c,cl.lookup x=some c->env.cells.lookup x=some c
 | [],_,x,c,e=>by cases e
 | p :: r,h,x,c,e=>by
  obtain ⟨k,a⟩:=p
  rw [List.lookup_cons] at e
  by_cases q:x=k
  ·subst q
   rw [beq_self_eq_true] at e
   cases e
   exact h.1
  ·rw [beq_eq_false_iff_ne.mpr q] at e
   exact ClOk.get h.2 x c e
def clAll (ns:List (Str×NameKind)) (cl:List (Str×Addr)):Bool:=ns.all fun y=>match y.2 with
 | .cell=>(cl.lookup y.1).isSome
 | .free=>(cl.lookup y.1).isSome
 | _=>true
theorem zmj {ns:List (Str×NameKind)} {cl:List (Str×Addr)} (h:clAll ns cl=true) (x:Str) (q:ns.lookup x=some .cell\/ns.lookup x=some .free):∃ c,cl.lookup x=some c:=by
 unfold clAll at h
 rw [List.all_eq_true] at h
 rcases q with q | q
 ·have:=h _ (PySem.mem_of_lookup q)
  exact Option.isSome_iff_exists.mp this
 ·have:=h _ (PySem.mem_of_lookup q)
  exact Option.isSome_iff_exists.mp this
theorem pe_lc {X:Cx} {elt target iter:Expr} {ifs:List Expr} {scope:Scope} {pos:Pos} {cl:List (Str×Addr)} (ts:List Str) (fr:List (Str×Nat)) {wi:TI} {g:TG} {tc:TT} {te:TE} (hcalm:X.calm=true)
    (hclos:closureFor scope X.env=pure cl) (hcell:∀ y∈scope.names,y.2≠.cell) (hkind:scope.kind = .function) (hnames:∀ y∈scope.names,y.2 = .local->scope.names.lookup y.1=some .local)
    (hcl:ClOk X.env cl) (hhas:clAll (relabel scope X.env).names cl=true) (hfr:FrOk X (relabel scope X.env) fr)
    (hi:PI X target iter wi) (hg:∀ fp s H,PG (zcu X scope cl (ts++fr.map (·.1)) fp s H) target g) (hc:∀ fp s H,PIfs (zcu X scope cl (ts++fr.map (·.1)) fp s H) ifs tc)
    (he:∀ fp s H,PE (zcu X scope cl (ts++fr.map (·.1)) fp s H) elt te) (hs:∀ x,foldedSetIterable iter X.env x=pure x:=by intro _; rfl) :
    PE X (.ListComp elt [⟨target,iter,ifs,0⟩] scope pos) (tComp ts.length fr wi g tc te) :=
  zvm hcalm hclos hcell hkind hnames hcl.get (fun x q=>zmj hhas x q) hfr hi hg hc he hs
end L2
namespace L2
open PySem PySem.Spec PyProof.Rows
def rSum (K:PySem.W.Frag):List V->Hp->VK->Prop:=fun xs H Q=>∃ (p:Addr) (ns:List Int),xs = [.ref p]/\SqL K H p (ns.map V.int)/\Q (.int ns.sum) H
def rAll (K:PySem.W.Frag):List V->Hp->VK->Prop:=fun xs H Q=>∃ (p:Addr) (bs:List Bool),xs = [.ref p]/\SqL K H p (bs.map V.bl)/\Q (.bl (bs.all id)) H
theorem ztf {bs:List Bool}:∀ {us:List Value},Vals (bs.map V.bl) us->us=bs.map Value.bool:=by
 induction bs with
 | nil=>intro us r; cases r; rfl
 | cons b r ih =>
  intro us h
  cases h with
  | cons h1 h2=>rw [show _=Value.bool b from h1,ih h2]; rfl
theorem zro {bs:List Bool} (f:Nat->Bool) (h:∀ i,i<bs.length->f i=bs.getD i false):(List.range bs.length).all f=bs.all id:=by
 rw [Bool.eq_iff_iff,List.all_eq_true,List.all_eq_true]
 constructor
 ·intro q b hb
  obtain ⟨i,hi,e⟩:=List.getElem_of_mem hb
  have:=q i (List.mem_range.mpr hi)
  rw [h i hi] at this
  rw [<- e]
  simpa [List.getD_eq_getElem?_getD,hi] using this
 ·intro q i hi
  have hi:=List.mem_range.mp hi
  rw [h i hi]
  have:=q bs[i] (List.getElem_mem hi)
  simpa [List.getD_eq_getElem?_getD,hi] using this
section
variable {X:Cx}
theorem zrp (K:PySem.W.Frag) (h:X.K=K) (hc:X.calm=true):CallR X (.builtin "sum") (rSum K):=by
 subst h
 intro pins s σ H xs us Q I r h
 obtain ⟨p,ns,rfl,hq,q⟩:=h
 obtain ⟨u,rfl,ru⟩:=vals1 r
 cases (show u=Value.ref p from ru)
 obtain ⟨its,rv,hp,hz⟩:=I.list hq
 have hi:=zpz rv
 obtain ⟨zs,e⟩:=hi.allInts.items
 have hl:=hp.isList
 rw [e] at hl
 refine sum_intListG (I.ok.hd hc) hl fun h' tk t' hk=>⟨.int ns.sum,H,I.kept (t':=tk) hk,⟨t',?_⟩,q⟩
 rw [preSum_eq,List.take_of_length_le (by simp)]
 have:=hi.numsOf
 rw [show its=its.toArray.toList from rfl,e,nums_intItems] at this
 rw [<- this]
theorem zqd {pins:List (Addr×Obj)} {s:Shared} {σ:St} {H:Hp} {p:Addr} {bs:List Bool} {Q:Value->Shared->Prop} (I:Inv X pins σ H s) (hc:X.calm=true) (hq:SqL X.K H p (bs.map V.bl))
    (h:∀ s₂:Shared,(∀ (h':Heap) (tk:Nat),(∀ b o,b ∉ [s.heap.objs.size]->s₂.heap.get? b=some o->h'.get? b=some o)->Inv X pins σ H { s₂ with heap:=h',toks:=tk }) ->
      (s₂.heap.IsListIter s.heap.objs.size p 0/\s₂.heap.IsList p (bs.map Value.bool).toArray)->p≠s.heap.objs.size->Q (.ref s.heap.objs.size) s₂) (E:Value->Shared->Prop) :
    wpAny (model X.prog X.w) X.A.in1 (pyIter (.ref p)) Q E s:=by
  obtain ⟨its,rv,hp,hz⟩:=I.list hq
  rw [ztf rv] at hp
  have hl:=hp.isList
  have hlt:p<s.heap.objs.size:=by obtain ⟨_,e,_⟩:=id hl; exact Heap.lt_size e
  refine wpAny_pyIter_list hl (h _ (fun h' tk hk=>I.kept (t':=tk) fun b o e=>?_) ⟨⟨_,Heap.get?_push_size _ rfl,rfl,rfl⟩,hl.push _⟩ (Nat.ne_of_lt hlt))
  exact hk b o (by simp [Nat.ne_of_lt (Heap.lt_size e)]) (Heap.get?_push_of_some _ e)
theorem zns {A:Around} {bs:List Bool}:TruthOf X.prog X.w A (fun i v=>(bs.map Value.bool).toArray[i]? = some v) (fun i=>bs.getD i false):=by
 intro i v s Q E hP hQ
 have e:bs[i]?.map Value.bool=some v:=by simpa using hP
 cases q:bs[i]? with
 | none=>rw [q] at e; cases e
 | some b =>
  rw [q] at e
  cases e
  dsimp only at hQ
  rw [List.getD_eq_getElem?_getD,q] at hQ
  exact wpAny_truthy_bool hQ
theorem zrq (K:PySem.W.Frag) (h:X.K=K) (hc:X.calm=true):CallR X (.builtin "all") (rAll K):=by
 subst h
 intro pins s σ H xs us Q I r h
 obtain ⟨p,bs,rfl,hq,q⟩:=h
 obtain ⟨u,rfl,ru⟩:=vals1 r
 cases (show u=Value.ref p from ru)
 refine call_all_walk (zqd I hc hq (fun s₂ J st hne=>⟨_,_,_,_,_,_,_,rfl,Walks.list (A:=X.A.in1) (I.ok.hd hc) _ p hne _,st,zns,fun h' tk hk=>⟨.bl _,H,J h' tk hk,?_,q⟩⟩) _)
 show Value.bool _=Value.bool _
 congr 1
 rw [List.size_toArray,List.length_map]
 exact zro _ fun i hi=>rfl
end
end L2
namespace L2
open PySem PySem.Spec PyProof.Rows
def CompG (J:It) (g:TG) (tc:TT) (te:TE) (D:Addr) (τ:St) (H:Hp) (Q:VK):Prop :=
 ∃ W:Nat->Nat->St->Hp->Prop,(∃ m,W 0 m τ H)/\∀ i m τ H',W i m τ H' ->
  (J.stop i H'/\Q (.ref D) H')\/(J.go i H'/\∃ N:St->Hp->Prop,(∀ τ' H'',N τ' H''->∃ m',m' < m/\W (i+1) m' τ' H'') /\
   ∀ x H2,J.yld i H' x H2->g x τ H2 fun τ2 H3=>tc τ2 H3 fun b H4=>if b=true then te τ2 H4 fun y H5=>∃ ys,H5 D=some (.lst ys)/\ys.length<sizeLine/\N τ2 (upd H5 D (.lst (ys++[y]))) else N τ2 H4)
theorem tComp_eq {nt:Nat} {fr:List (Str×Nat)} {wi:TI} {g:TG} {tc:TT} {te:TE} {σ:St} {H:Hp} {Q:VK} :
    tComp nt fr wi g tc te σ H Q=wi σ H fun J H1=>∀ D,H1 D=none->CompG J g tc te D (List.replicate nt none++fr.map fun p=>(σ[p.2]?).join) (upd H1 D (.lst [])) Q:=rfl
theorem zrr {K:PySem.W.Frag} {a:Addr} {xs:List V} {g:TG} {tc:TT} {te:TE} {D:Addr} {τ:St} {H:Hp} {Q:VK} (Pv:Nat->St->Hp->Prop) (h0:Pv 0 τ H) (hl:∀ i τ H,i<=xs.length->Pv i τ H->SqL K H a xs)
    (hs:∀ i x τ H,xs[i]? = some x->Pv i τ H->g x τ H fun τ2 H3=>tc τ2 H3 fun b H4=>if b=true then te τ2 H4 fun y H5=>∃ ys,H5 D=some (.lst ys)/\ys.length<sizeLine/\Pv (i+1) τ2 (upd H5 D (.lst (ys++[y]))) else Pv (i+1) τ2 H4)
    (hd:∀ τ H,Pv xs.length τ H->Q (.ref D) H) :
    CompG (Itl K a) g tc te D τ H Q:=by
  refine ⟨fun i m τ H=>m=xs.length-i/\i<=xs.length/\Pv i τ H,⟨xs.length,by simp,Nat.zero_le _,h0⟩,?_⟩
  rintro i m τ H ⟨rfl,hi,p⟩
  have q:=hl i τ H hi p
  by_cases hlt:i<xs.length
  · refine .inr ⟨⟨xs,xs[i],q,by simp [hlt]⟩,Pv (i+1),fun τ' H' p'=>⟨xs.length-(i+1),by omega,rfl,hlt,p'⟩,fun x H2 z=>?_⟩
    obtain ⟨rfl,hx⟩:=z
    exact hs i x τ H2 (hx xs q) p
  · have e:i=xs.length:=by omega
    subst e
    exact .inl ⟨⟨xs,q,Nat.le_refl _⟩,hd τ H p⟩
theorem zrs {α:Type} {xs:List α} {i:Nat} {x:α} (h:xs[i]? = some x):xs.take (i+1)=xs.take i++[x]:=by
 rw [List.take_add_one,h]; rfl
abbrev Q4:=Int×Int×Int×Int
def q4 (q:Q4):List V:=[.int q.1,.int q.2.1,.int q.2.2.1,.int q.2.2.2]
theorem zrt (ns:List Int) (lo hi:Option Int):∃ ms:List Int,cutV (ns.map V.int) lo hi=ms.map V.int/\ms.length<=ns.length:=by
 refine ⟨(ns.drop (HT.sIx (ns.map V.int).length 0 lo)).take (HT.sIx (ns.map V.int).length (ns.map V.int).length hi-HT.sIx (ns.map V.int).length 0 lo),?_,?_⟩
 ·unfold cutV; rw [List.map_take,List.map_drop]
 ·rw [List.length_take,List.length_drop]; omega
end L2
namespace L2
open PySem PySem.Spec PyProof.Rows
end L2
namespace L2
open PySem PySem.Spec PyProof.Rows
section
variable {X:Cx}
theorem zvo (K:PySem.W.Frag) (h:X.K=K) (hu:X.A.units+64<cLine):OpR X (compareOp .Eq) (rEqD K):=h ▸ zxp hu
end
theorem zov {K:PySem.W.Frag} {H:Hp} {p:Addr} {ys:List V} {Q:VK} (h:SqL K H p ys) (q:Q (.int ys.length) H):rLen K [.ref p] H Q:=⟨p,ys,rfl,.inl h,q⟩
theorem zow {K:PySem.W.Frag} {H:Hp} {p:Addr} {xs:List V} {lo hi:Option Int} {Q:VK} (h:SqL K H p xs) (q:∀ l,H l=none->Q (.ref l) (upd H l (.lst (cutV xs lo hi)))):rSlL K (.ref p) lo hi H Q:=⟨p,xs,rfl,h,q⟩
end L2
namespace L2
open PySem PySem.Spec PyProof.Rows
section
variable {prog:Program} {w:World} {A:Around} {R:Result->Shared->Prop}
theorem ztg {ns:List Int} {its:List Value} (r:Vals (ns.map V.int) its) {j:Nat} {v:Value} (h:its.toArray[j]? = some v):∃ n t,ns[j]? = some n/\v = .int n t:=by
 have hj:j<its.length:=by
  have:=(Array.getElem?_eq_some_iff.mp h).1
  simpa using this
 have hl:=r.length
 rw [List.length_map] at hl
 have e:(ns.map V.int)[j]? = some (V.int ns[j]):=by simp [hl ▸ hj]
 obtain ⟨u,hu,t,ru⟩:=r.get e
 have:its[j]? = some v:=by simpa using h
 rw [this] at hu
 cases hu
 exact ⟨ns[j],t,by simp [hl ▸ hj],ru⟩
end
end L2
namespace L2
open PySem PySem.Spec PyProof.Rows
def XTr (B:Heap) (e:Addr) (h:Heap) (vs:Array Value):Option Value->Prop
 | none=>vs[1]? = some Value.none
 | some f=>∃ T oT ts,vs[1]? = some (.ref T)/\B.get? T=none/\T≠e/\h.get? T=some oT/\oT.data = .fields ts/\ts[3]? = some f
structure XAt (B:Heap) (e:Addr) (cls:Value) (dct:Option Addr) (fl:Option Value) (h:Heap):Prop where
 stay:B.StaysIn h
 new:B.get? e=none
 ex:∃ oe vs,h.get? e=some oe/\oe.cls=cls/\oe.dict=dct/\oe.data = .fields vs/\1<vs.size/\XTr B e h vs fl
structure UpS (h h':Heap):Prop where
 sl:∀ b o,h.get? b=some o->(∀ vs,o.data≠.fields vs)->∃ sl,h'.get? b=some { o with slots:=sl }
 th:∀ b o,h.get? b=some o->∃ o',h'.get? b=some o'
theorem UpS.trans {h h1 h2:Heap} (a:UpS h h1) (b:UpS h1 h2):UpS h h2:=by
 refine ⟨fun c o e n=>?_,fun c o e=>?_⟩
 ·obtain ⟨s1,e1⟩:=a.sl c o e n
  obtain ⟨s2,e2⟩:=b.sl c _ e1 n
  exact ⟨s2,e2⟩
 ·obtain ⟨o1,e1⟩:=a.th c o e
  exact b.th c o1 e1
theorem UpS.funs {h h' B:Heap} {l:List Env} (u:UpS h h') (f:h.FunFrames B l):h'.FunFrames B l:=f.of_keeps fun b o e n=>by
 obtain ⟨sl,q⟩:=u.sl b o e n
 exact ⟨_,q,rfl⟩
section
variable {M:Model} {A:Around} {E:Value->Shared->Prop} {s:Shared} {B:Heap} {env:Env} {outer:List Env} {L e:Addr} {cls:Value} {dct:Option Addr}
theorem zox {fl:Option Value} {head:Value} {b1:Bool} {Q:Unit->Shared->Prop} (fr:A.frames=some (env :: outer)) (ff:s.heap.FunFrames B (env :: outer)) (hf:env.frame=some L) (x:XAt B e cls dct fl s.heap)
    (h:∀ h',XAt B e cls dct (some (rawInt L)) h'->UpS s.heap h'->Q () { s with heap:=h' }) :
    wpAny M A (do let a <- frameOf env; let pl <- entryPlaceOf L b1; let b <- EntryCells.newEntry head a .none (rawInt L) .none pl; setField (.ref e) 1 b) Q E s:=by
  obtain ⟨stay,new,oe,vs,oe1,oe2,oe3,oe4,oe5,_⟩:=x
  have nf:e ∉ (env :: outer).filterMap (·.frame):=fun z=>by
    obtain ⟨_,o,q,n⟩:=ff.mem z
    rw [oe1] at q
    cases q
    exact n vs oe4
  refine wpAny_bind (wpAny_frameOf_fun fr ff hf fun h1 sl=>wpAny_bind (wpAny_entryPlaceOf fun pl ip=>?_))
  have e1:h1.get? e=some oe:=(sl.2.1 e nf).trans oe1
  have st1:B.StaysIn h1:=fun b o q=>(sl.2.1 b fun z=>by rw [(ff.mem z).1] at q; cases q).trans (stay b o q)
  unfold EntryCells.newEntry newFields
  refine wpAny_bind (wpAny_newObj_type ?_ (ip.sizeOk5 _ _ _ _ _))
  generalize hT:({ cls:=.type "traceback", dict:=none,data:=.fields ([head,.ref L,.none,rawInt L,.none]++(if pl.isEmpty then List.replicate 6 Value.none else pl)).toArray }:Obj)=oT
  have e2:(h1.push oT).get? e=some oe:=Heap.get?_push_of_some _ e1
  have ne:h1.objs.size≠e:=Nat.ne_of_gt (Heap.lt_size e1)
  refine wpAny_setField e2 oe4 oe5 (h _ ⟨fun b o q=>?_,new,_,_,Heap.get?_update_self _ e2 (Obj.isFreed_of_fields (Obj.data_mapFields oe4 _)),(Obj.cls_mapFields _ _).trans oe2,?_,Obj.data_mapFields oe4 _,by simpa using oe5,h1.objs.size,oT,_,by simp [oe5],st1.fresh,ne,?_,by rw [<- hT],?_⟩ ⟨fun b o q n=>?_,fun b o q=>?_⟩)
  · rw [Heap.get?_update_other _ _ fun z=>by rw [<- z,new] at q; cases q]
    exact Heap.get?_push_of_some _ (st1 b o q)
  · rw [<- oe3]; cases oe with | mk c d da sl=>cases da <;> rfl
  · rw [Heap.get?_update_other _ _ (Ne.symm ne)]
    exact Heap.get?_push_size _ (by rw [<- hT]; rfl)
  · rcases ip with rfl | ⟨_,_,_,_,_,_,_,rfl⟩ <;> simp
  · obtain ⟨s1,q1⟩:=sl.2.2 b o q
    refine ⟨s1,?_⟩
    rw [Heap.get?_update_other _ _ fun z=>by rw [<- z,oe1] at q; cases q; exact n vs oe4]
    exact Heap.get?_push_of_some _ q1
  · by_cases z:b=e
    · rw [z]; exact ⟨_,Heap.get?_update_self _ e2 (Obj.isFreed_of_fields (Obj.data_mapFields oe4 _))⟩
    · obtain ⟨s1,q1⟩:=sl.2.2 b o q
      exact ⟨_,(Heap.get?_update_other _ _ (Ne.symm z)).trans (Heap.get?_push_of_some _ q1)⟩
theorem zhm {f:Value} {Q:Unit->Shared->Prop} (x:XAt B e cls dct (some f) s.heap) (h:∀ h',XAt B e cls dct (some .none) h'->UpS s.heap h'->Q () { s with heap:=h' }):wpAny M A (setFlight (.ref e) none) Q E s:=by
 obtain ⟨stay,new,oe,vs,oe1,oe2,oe3,oe4,oe5,T,oT,ts,t1,t2,t3,t4,t5,t6⟩:=x
 unfold setFlight
 refine wpAny_bind (wpAny_field oe1 oe4 t1 ?_)
 rw [if_pos (show (Value.ref T != Value.none)=true by simp)]
 have h3:3<ts.size:=(Array.getElem?_eq_some_iff.mp t6).1
 have oth:∀ (g:Obj->Obj) b,b≠T->(s.heap.update T g).get? b=s.heap.get? b:=fun g b z=>Heap.get?_update_other _ _ (Ne.symm z)
 refine wpAny_setField t4 t5 h3 (h _ ⟨fun b o q=>?_,new,oe,vs,by rw [oth _ _ (Ne.symm t3)]; exact oe1,oe2,oe3,oe4,oe5,T,_,_,t1,t2,t3,Heap.get?_update_self _ t4 (Obj.isFreed_of_fields (Obj.data_mapFields t5 _)),Obj.data_mapFields t5 _,by simp [h3]⟩ ⟨fun b o q n=>⟨o.slots,?_⟩,fun b o q=>?_⟩)
 ·rw [oth _ _ fun z=>by rw [z,t2] at q; cases q]
  exact stay b o q
 ·rw [oth _ _ fun z=>by rw [z,t4] at q; cases q; exact n ts t5]
  exact q
 ·by_cases z:b=T
  ·rw [z]; exact ⟨_,Heap.get?_update_self _ t4 (Obj.isFreed_of_fields (Obj.data_mapFields t5 _))⟩
  ·exact ⟨o,(oth _ _ z).trans q⟩
theorem znt {fl:Option Value} {Q:Unit->Shared->Prop} (fr:A.frames=some (env :: outer)) (ff:s.heap.FunFrames B (env :: outer)) (hf:env.frame=some L) (x:XAt B e cls dct fl s.heap) (hfl:fl=none\/fl=some .none)
    (h:∀ h',XAt B e cls dct (some (rawInt L)) h'->UpS s.heap h'->Q () { s with heap:=h' }):wpAny M A (noteFrame (.ref e) env) Q E s:=by
  have x0:=x
  obtain ⟨stay,new,oe,vs,oe1,oe2,oe3,oe4,oe5,tr⟩:=x
  unfold noteFrame
  simp only [hf]
  rcases hfl with rfl | rfl
  · refine wpAny_bind (wpAny_field oe1 oe4 tr ?_)
    rw [if_neg (by decide)]
    exact zox fr ff hf x0 h
  · obtain ⟨T,oT,ts,t1,t2,t3,t4,t5,t6⟩:=tr
    refine wpAny_bind (wpAny_field oe1 oe4 t1 ?_)
    rw [if_pos (show (Value.ref T != Value.none)=true by simp)]
    refine wpAny_bind (wpAny_field t4 t5 t6 ?_)
    rw [if_neg (show ¬ ((Value.none == rawInt L)=true) by simp [rawInt])]
    have h3:3<ts.size:=(Array.getElem?_eq_some_iff.mp t6).1
    have oth:∀ (g:Obj->Obj) b,b≠T->(s.heap.update T g).get? b=s.heap.get? b:=fun g b z=>Heap.get?_update_other _ _ (Ne.symm z)
    have up:∀ g,UpS s.heap (s.heap.update T (Obj.mapFields g)):=fun g=>⟨fun b o q n=>⟨o.slots,by
      rw [oth _ _ fun z=>by rw [z,t4] at q; cases q; exact n ts t5]; exact q⟩,fun b o q=>by
      by_cases z:b=T
      · rw [z]; exact ⟨_,Heap.get?_update_self _ t4 (Obj.isFreed_of_fields (Obj.data_mapFields t5 _))⟩
      · exact ⟨o,(oth _ _ z).trans q⟩⟩
    refine wpAny_bind (wpAny_setField t4 t5 h3 ?_)
    refine zox (fl:=some .none) fr ((up _).funs ff) hf ⟨fun b o q=>?_,new,oe,vs,by rw [oth _ _ (Ne.symm t3)]; exact oe1,oe2,oe3,oe4,oe5,T,_,_,t1,t2,t3,Heap.get?_update_self _ t4 (Obj.isFreed_of_fields (Obj.data_mapFields t5 _)),Obj.data_mapFields t5 _,by simp [h3]⟩ fun h' a b=>h h' a ((up _).trans b)
    rw [oth _ _ fun z=>by rw [z,t2] at q; cases q]
    exact stay b o q
theorem zoy {fl:Option Value} {Q:Unit->Shared->Prop} (fr:A.frames=some (env :: outer)) (ff:s.heap.FunFrames B (env :: outer)) (hf:env.frame=some L) (x:XAt B e cls dct fl s.heap) (hfl:fl=none\/fl=some .none)
    (h:∀ h',XAt B e cls dct (some .none) h'->UpS s.heap h'->Q () { s with heap:=h' }):wpAny M A (leaving env (.ref e)) Q E s:=by
  unfold leaving
  exact wpAny_bind (znt fr ff hf x hfl fun h1 x1 u1=>zhm (s:={ s with heap:=h1 }) x1 fun h2 x2 u2=>h h2 x2 (u1.trans u2))
end
end L2
namespace L2
open PySem PySem.Spec PyProof.Rows
abbrev bmV:List Value:=[.type "ValueError", .type "Exception", .type "BaseException", .type "object"]
structure XC (K:PySem.W.Frag) (C:Addr):Prop where
 hd:PySem.W.hasDictIn K C=true
 ga:PySem.W.findIn K (.ref C) "__getattribute__" = some (some (.builtin "BaseException.__getattribute__"))
 gn:PySem.W.findIn K (.ref C) "__getattr__" = some none
 sa:PySem.W.findIn K (.ref C) "__setattr__" = some (some (.builtin "object.__setattr__"))
 cl:PySem.W.findIn K (.ref C) "__class__" = some (some (.builtin "object.__class__"))
 kg:PySem.W.specialIn K (.builtin "object.__class__") "__get__" = some (some (.builtin "getset_descriptor.__get__"))
 kt:PySem.W.takesIn K (.builtin "object.__class__")=some true
 be:PySem.W.mroIn K C (.type "BaseException")=some true
 ob:PySem.W.mroIn K C (.type "object")=some true
 ex:∃ nm q N bs bm hdct sn sub ab col dd k0 k1 k2 k3 k5,K.lookup C=some (excClassObj nm q C N bs bm hdct sn sub ab col dd k0 k1 k2 k3 k5 "ValueError.__new__")/\PySem.W.tailIn K bmV bm=true
theorem XC.plain {K:PySem.W.Frag} {C:Addr} (q:PySem.W.excIn K C bmV "ValueError.__new__" = true) :
    ∃ nm q N bs bm hdct sn sub ab col dd k0 k1 k2 k3 k5,K.lookup C=some (excClassObj nm q C N bs bm hdct sn sub ab col dd k0 k1 k2 k3 k5 "ValueError.__new__")/\PySem.W.tailIn K bmV bm=true/\PySem.W.nsOkIn K N=true/\PySem.W.nsIn K N "__init__" = some none:=by
  unfold PySem.W.excIn at q
  split at q
  · rename_i dd cd sl ho
    split at q
    · rename_i C' bm k0 k1 k2 k3 n k5 hm hs
      simp only [Bool.and_eq_true,beq_iff_eq,Bool.not_eq_true'] at q
      obtain ⟨⟨⟨⟨⟨rfl,rfl⟩,d1⟩,ht⟩,hok⟩,hni⟩:=q
      obtain ⟨nm,bs,mro,ns,qn,hd,sn,sub,ab,col,del⟩:=cd
      dsimp only at hm d1 hok hni
      subst hm d1
      obtain ⟨l⟩:=sl
      simp only at hs
      subst hs
      exact ⟨nm,qn,ns,bs,bm,hd,sn,sub,ab,col,dd,k0,k1,k2,k3,k5,ho,ht,hok,hni⟩
    · cases q
  · cases q
section
variable {prog:Program} {w:World} {A:Around} {E:Value->Shared->Prop} {s:Shared} {K:PySem.W.Frag} {x C:Addr} {ox:Obj} {od:Option Obj}
open PySem.W in
theorem zqe {Q:Option Value->Shared->Prop} (X:K.In s.heap) (c:XC K C) (I:PySem.W.InstAt s.heap x ox C od) (h:Q (some (.ref C)) { s with toks:=s.toks+1 }):wpAny (model prog w) A (getAttr? (.ref x) "__class__") Q E s:=by
 have hf:findObj K C od "__class__" = some (.bind (.builtin "getset_descriptor.__get__") (.builtin "object.__class__")):=by
  obtain ⟨cd,hc,_⟩:=any_some c.hd
  unfold findObj
  rw [hc,Option.bind_some,c.cl,Option.bind_some]
  dsimp only
  rw [c.kg,Option.bind_some]
  dsimp only
  rw [c.kt,Option.bind_some]
 obtain ⟨hh,g,d,t,os⟩:=s
 have L0:=I.type (M:=model prog w)
 have L1:=looks_findIn (M:=model prog w) X c.ga
 have L2':=looks_findIn (M:=model prog w) X c.gn
 have L3:=looks_find (M:=model prog w) X I hf
 have sub:Looks (model prog w) hh (isInstance (.ref x) (.type "BaseException")) true:=I.type.andThen (looks_mroIn X c.be)
 have hx:(Value.builtin "BaseException.__getattribute__" == Value.builtin "object.__getattribute__")=false:=by decide +kernel
 have hx1:¬ ((onTheHeap (Value.ref C) && Value.builtin "BaseException.__getattribute__" == Value.builtin "object.__getattribute__")=true):=by rw [hx,Bool.and_false]; exact Bool.false_ne_true
 unfold getAttr? getAttrBy? getAttrBy
 refine wpAny_bind (wpAny_mkText (wpAny_bind (wpAny_attempt (wpAny_holding (wpAny_bind (L0.at (wpAny_bind (L1.at ?_))))))))
 show wpAny _ _ (if (onTheHeap (Value.ref C) && Value.builtin "BaseException.__getattribute__" == Value.builtin "object.__getattribute__")=true then _ else _) _ _ _
 rw [if_neg hx1]
 unfold getAttrByItsOwn hookBefore
 rw [if_pos (show onTheHeap (Value.ref C)=true from rfl)]
 refine wpAny_bind (L2'.at ?_)
 refine wpAny_bind (wpAny_attempt (wpAny_holding ?_))
 show wpAny _ _ (boundAndCalled (.builtin "BaseException.__getattribute__") (.ref x) (.str "__class__" t)) _ _ _
 unfold boundAndCalled
 refine wpAny_bind (wpAny_of_eq (PySem.F.attr_ValueError.ga.bind (.ref x)) ?_)
 show wpAny _ _ (call (.builtin "BaseException.__getattribute__") [.ref x,.str "__class__" t]) _ _ _
 have hk:builtinKind "BaseException.__getattribute__" = some .slot:=by decide +kernel
 have hs:splitId "BaseException.__getattribute__" = some ("BaseException", "__getattribute__"):=by decide +kernel
 refine wpAny_call (codeAny_call_builtin PySem.F.attr_ValueError.ga.plain PySem.F.entry_bexc_ga ?_)
 refine @check_slot (model prog w) _ _ _ "BaseException.__getattribute__" "BaseException" "__getattribute__" (.ref x) [.str "__class__" t] [] _ hk hs sub (PySem.F.args_bexc_ga _ _) ?_
 refine wpAny_bind (wpAny_pure (wpAny_bind (wpAny_pure (wpAny_bind (L0.at (wpAny_bind (L3.at ?_)))))))
 show wpAny _ _ (holding [Value.builtin "object.__class__"] (call (.builtin "getset_descriptor.__get__") [.builtin "object.__class__", .ref x,.ref C]) >>= ret) _ _ _
 refine wpAny_bind (wpAny_holding (wpAny_call (class_get (s:={ heap:=hh,gens:=g,drawn:=d,toks:=t+1,os:=os }) X I c.ob (wpAny_pure ?_))))
 show wpAny _ _ (handedOut (.ref C)) _ _ _
 exact wpAny_pure (wpAny_pure h)
open PySem.W in
theorem zth (c:XC K C):KitX K (.ref x) (.ref C) (fun h=>∃ ox od,PySem.W.InstAt h x ox C od) where
 ty:=fun _ _ _ ⟨_,_,I⟩=>I.type
 it:=fun _ _ X _=>by
  obtain ⟨cd,hc,_⟩:=any_some c.hd
  unfold clsIn at hc
  split at hc
  ·rename_i ho
   intro A' Q' E' s' k q
   unfold isType loadHead
   exact wpAny_bind (wpAny_loadPart (k _ _ (X _ _ ho)) (wpAny_pure q))
  ·cases hc
 ne:=fun h tp dd its n sl X htp=>by
  obtain ⟨cd,hc,_⟩:=any_some c.hd
  refine Bool.eq_false_iff.mpr fun q=>?_
  have e:C=tp:=Value.ref.inj (beq_iff_eq.mp q)
  subst e
  unfold clsIn at hc
  split at hc
  ·rename_i ho
   have z:=(X _ _ ho).symm.trans htp
   cases z
  ·cases hc
 ca:=fun X ⟨_,_,I⟩ k=>zqe X c I k
theorem zxq {us:List Value} {Q:Value->Shared->Prop} (X:K.In s.heap) (q:PySem.W.excIn K C bmV "ValueError.__new__" = true) (hl:us.length<=sizeLine)
    (h:∀ h' e,Heap.MadeExcOf s.heap h' e (.ref C) us->Q (.ref e) { s with heap:=h' }):wpAny (model prog w) A (call (.ref C) us) Q E s:=by
  obtain ⟨nm,qn,N,bs,bm,hdct,sn,sub,ab,col,dd,k0,k1,k2,k3,k5,lk,tl,nk,ni⟩:=XC.plain q
  obtain ⟨hp,g,d,t,os⟩:=s
  exact wpAny_call_exc_subU PySem.F.excBase_ValueError rfl PySem.F.excBase_ValueError (PySem.W.tail_of_in X tl) (X _ _ lk) (.of_isNs (PySem.W.isNs_of_in X nk)) (PySem.W.nsMap_none_of_in X nk ni) (fun h' e m=>h h' e m) hl
theorem zxr {env:Env} {y:Sem Value} {Q:Flow->Shared->Prop} (hh:A.handled=none)
    (h:wpAny (model prog w) A y (fun v s1=>∃ C e oe vs,XC K C/\v = .ref e/\K.In s1.heap/\s1.heap.get? e=some oe/\oe.cls = .ref C/\oe.data = .fields vs/\vs[1]? = some Value.none/\E (.ref e) s1) E s) :
    wpAny (model prog w) A (raiseStmt env (some y) none) Q E s:=by
  unfold raiseStmt
  refine wpAny_bind (wpAny_mono h (fun v s1 z=>?_) fun _ _ z=>z)
  obtain ⟨C,e,oe,vs,c,rfl,X,e1,e2,e3,e4,fin⟩:=z
  obtain ⟨nm,qn,N,bs,bm,hdct,sn,sub,ab,col,dd,k0,k1,k2,k3,k5,lk,tl⟩:=c.ex
  obtain ⟨hp,g,d,t,os⟩:=s1
  have cl:=X _ _ lk
  have hcB:(Value.ref C :: bm).contains (.type "BaseException")=true:=by rw [List.contains_cons,(PySem.W.tail_of_in X tl).hasType (show bmV.contains (.type "BaseException")=true from rfl),Bool.or_true]
  obtain ⟨oc,od,oda,osl⟩:=oe
  dsimp only at e2 e3
  subst e2 e3
  have fl:∀ {α:Type} {QQ:Value->Shared->Prop},QQ .none ⟨hp,g,d,t,os⟩->wpAny (model prog w) A (field (.ref e) 1) QQ E ⟨hp,g,d,t,os⟩:=fun {_ _} z=>wpAny_field e1 rfl e4 z
  repeat (first | (with_reducible refine wpAny_isSubtype_exc cl ?_; rw [hcB]) | with_reducible refine wpAny_loadPart_at e1 ?_ | with_reducible refine wpAny_loadPart_at cl ?_ | with_reducible refine wpAny_field e1 rfl e4 ?_ | wp_step)
  exact wpAny_raiseNew_none hh fin
end
end L2
namespace L2
open PySem PySem.Spec PyProof.Rows
def XOb (e C:Addr) (dct:Option Addr) (fr:Bool) (h:Heap):Prop:=∃ oe vs,h.get? e=some oe/\oe.cls = .ref C/\oe.dict=dct/\oe.data = .fields vs/\1<vs.size/\(fr=true->vs[1]? = some Value.none)
def excO (e C:Addr) (dct:Option Addr) (fr:Bool):HO:=.ext (XOb e C dct fr)
def XDt (d:Addr) (fs:List (Str×V)) (h:Heap):Prop:=∃ mA,h.Ns1 d mA/\∀ f,RelO (fs.lookup f) (mA f)
def xdO (d:Addr) (fs:List (Str×V)):HO:=.ext (XDt d fs)
section
variable {P:Program} {w:World} {H:Hp} {h:Heap}
theorem znu {e C:Addr} {dct:Option Addr} {fr:Bool} (x:XOb e C dct fr h):ObjOk P w H h e (excO e C dct fr):=by
 refine ⟨x,?_,fun h1 h2 y k=>?_⟩
 ·obtain ⟨oe,vs,e1,_⟩:=x
  exact ⟨oe,e1⟩
 ·obtain ⟨oe,vs,e1,r⟩:=y
  exact ⟨oe,vs,k _ e1,r⟩
theorem ObjOk.there {a:Addr} {o:HO} (x:ObjOk P w H h a o):∃ ob,h.get? a=some ob:=by
 cases o with
 | lst xs=>obtain ⟨_,_,_,_,e⟩:=x; exact ⟨_,e⟩
 | tup xs=>obtain ⟨_,_,_,_,e,_⟩:=x; exact ⟨_,e⟩
 | dK kvs=>obtain ⟨_,_,_,_,o,_,_,e,_⟩:=x; exact ⟨_,e⟩
 | dT kvs=>obtain ⟨_,_,_,_,o,_,_,e,_⟩:=x; exact ⟨_,e⟩
 | set S n=>obtain ⟨o,_,_,_,e,_⟩:=x; exact ⟨_,e⟩
 | ins C dx fs=>obtain ⟨_,_,_,e,_⟩:=x; exact ⟨_,e⟩
 | own y=>exact x
 | xd fs=>obtain ⟨_,⟨_,_,_,e,_⟩,_⟩:=x; exact ⟨_,e⟩
 | rng lo hi=>obtain ⟨_,_,_,e⟩:=x; exact ⟨_,e⟩
 | frz ob u=>obtain ⟨e,_⟩:=x; exact ⟨_,e⟩
 | tbl ps=>exact ⟨_,show h.get? a=some _ from x⟩
 | met f y=>exact ⟨_,show h.get? a=some _ from x⟩
 | ext φ=>exact x.2.1
theorem HOk.exc (x:HOk P w H h) {e C:Addr} {dct:Option Addr} {fr:Bool} (q:H e=some (excO e C dct fr)):XOb e C dct fr h:=(show ObjOk P w H h e (excO e C dct fr) from x e _ q).1
theorem HOk.xd (x:HOk P w H h) {d:Addr} {fs:List (Str×V)} (q:H d=some (xdO d fs)):XDt d fs h:=(show ObjOk P w H h d (xdO d fs) from x d _ q).1
end
structure Fly (P:Program) (w:World) (B:Heap) (l:List Env) (e C:Addr) (dct:Option Addr) (H:Hp) (h:Heap):Prop where
 at_:∃ fl,(fl=none\/fl=some Value.none)/\XAt B e (.ref C) dct fl h
 ff:h.FunFrames B l
 hok:HOk P w H h
 he:H e=some (excO e C dct false)
 cov:∀ a o,H a=some o->a≠e->∃ ob,B.get? a=some ob
def CXX (P:Program) (w:World):CXT:=fun outer H s E e s'=>∃ B ea C dct H',e = .ref ea/\s'.os=s.os/\AllBare s'.gens/\Fly P w B outer ea C dct H' s'.heap/\Un (frs outer) [] H H' s.heap s'.heap /\
 (∀ b o,s.heap.get? b=some o->H b=none->b ∉ frs outer->B.get? b=some o)/\E (.ref ea) dct H'
theorem zoz {P:Program} {w:World} {B:Heap} {e C:Addr} {dct:Option Addr} {fl:Option Value} {H:Hp} {h h':Heap} (x:HOk P w H h) (he:H e=some (excO e C dct false)) (cov:∀ a o,H a=some o->a≠e->∃ ob,B.get? a=some ob) (st:B.StaysIn h)
    (y:XAt B e (.ref C) dct fl h'):HOk P w H h':=fun a o q=>by
  by_cases z:a=e
  · subst z
    rw [he] at q
    cases q
    obtain ⟨oe,vs,e1,e2,e3,e4,e5,_⟩:=y.ex
    exact znu ⟨oe,vs,e1,e2,e3,e4,e5,fun z=>by cases z⟩
  · refine (x a o q).stay (fun b u hb g=>?_) (fun _ q=>q) fun _ _ q=>q
    have hbe:∃ o',H b=some o'/\b≠e:=by
      rcases hb with rfl | hb
      · exact ⟨_,q,z⟩
      · refine ⟨_,hb,fun y=>?_⟩
        rw [y,he] at hb
        cases hb
    obtain ⟨o',h1,h2⟩:=hbe
    obtain ⟨ob,h3⟩:=cov b o' h1 h2
    have h4:=st b ob h3
    rw [g] at h4
    cases h4
    exact y.stay b _ h3
section
variable {X:Cx} {pins:List (Addr×Obj)} {σ:St} {H H':Hp} {s:Shared} {h':Heap}
theorem Inv.out (I:Inv X pins σ H s) (hex:X.ex = []) (u:Un (frs X.stack) [] H H' s.heap h'):Un X.fs [] X.H₀ H' X.s₀.heap h':=by
 have nl:∀ b o,X.s₀.heap.get? b=some o->b≠X.env.locals:=fun b o q z=>absurd (Nat.lt_of_lt_of_le (Heap.lt_size q) (by rw [z]; exact I.ok.above)) (Nat.lt_irrefl _)
 have nx:∀ b:Addr,b ∉ X.ex:=fun b=>by rw [hex]; simp
 have ns:∀ b o,X.s₀.heap.get? b=some o->b ∉ X.fs->b ∉ frs X.stack:=fun b o q n z=>by
  rcases List.mem_cons.mp (I.stkSub b z) with y | y
  ·exact nl b o q y
  ·exact n y
 refine ⟨fun b o q n hb _=>u.keep b o (I.base.keep b o q n hb (nx b)) (I.base.free b o q n (nx b)) (ns b o q hb) (by simp),fun b o q n hb _=>?_,fun b o q n _=>?_,fun b o q _=>?_,fun b xs q=>u.tups b xs (I.base.tups b xs q),fun b o v q=>u.frzs b o v (I.base.frzs b o v q),fun b ps q=>?_⟩
 ·obtain ⟨sl,e⟩:=I.base.slot b o q n hb (nx b)
  have fr:=I.base.free b o q n (nx b)
  by_cases hs:b∈frs X.stack
  ·obtain ⟨sl2,e2⟩:=u.slot b _ e fr hs (by simp)
   exact ⟨sl2,e2⟩
  ·exact ⟨sl,u.keep b _ e fr hs (by simp)⟩
 ·obtain ⟨o1,e⟩:=I.base.there b o q (nx b)
  exact u.free b o1 e (I.base.free b o q n (nx b)) (by simp)
 ·obtain ⟨o1,e⟩:=I.base.there b o q (nx b)
  exact u.there b o1 e (by simp)
 ·obtain ⟨m1,e1⟩:=I.base.tbls b ps q
  obtain ⟨m2,e2⟩:=u.tbls b _ e1
  exact ⟨m1++m2,by rw [e2,Array.append_assoc]⟩
def bOf (X:Cx) (e:Addr) (h:Heap):Heap:=PySem.W.hideAll h (e :: frs X.stack)
theorem Inv.flyB (I:Inv X pins σ H s) {e C:Addr} {dct:Option Addr} (he:H e=some (excO e C dct true)) :
    XAt (bOf X e s.heap) e (.ref C) dct none s.heap/\s.heap.FunFrames (bOf X e s.heap) X.stack/\(∀ b o,s.heap.get? b=some o->b≠e->b ∉ frs X.stack->(bOf X e s.heap).get? b=some o):=by
  obtain ⟨oe,vs,e1,e2,e3,e4,e5,e6⟩:=I.hok.exc he
  refine ⟨⟨fun b o q=>PySem.W.of_hideAll _ q,PySem.W.hideAll_none _ (.head _),oe,vs,e1,e2,e3,e4,e5,e6 rfl⟩,PySem.W.funFrames_hide I.stack fun env hm a ha=>.tail _ (List.mem_filterMap.mpr ⟨env,hm,ha⟩),fun b o q n1 n2=>PySem.W.hideAll_get _ q fun z=>?_⟩
  rcases List.mem_cons.mp z with y | y
  · exact n1 y
  · exact n2 y
theorem Inv.flyUn (I:Inv X pins σ H s) {e C:Addr} {dct:Option Addr} {fl:Option Value} (he:H e=some (excO e C dct true)) (x:XAt (bOf X e s.heap) e (.ref C) dct fl h') (u:UpS s.heap h') :
    Un (frs X.stack) [] H (upd H e (excO e C dct false)) s.heap h'/\HOk X.prog X.w (upd H e (excO e C dct false)) h'/\∀ a o,upd H e (excO e C dct false) a=some o->a≠e->∃ ob,(bOf X e s.heap).get? a=some ob:=by
  obtain ⟨x0,ff,big⟩:=I.flyB he
  have cov:∀ a o,upd H e (excO e C dct false) a=some o->a≠e->∃ ob,(bOf X e s.heap).get? a=some ob:=fun a o q n=>by
    rw [zai n] at q
    obtain ⟨ob,g⟩:=(I.hok a o q).there
    exact ⟨ob,big a ob g n fun z=>by rw [I.stkFree a z] at q; cases q⟩
  have ne:∀ b,H b=none->b≠e:=fun b n z=>by rw [z,he] at n; cases n
  refine ⟨⟨fun b o q n hb _=>x.stay b o (big b o q (ne b n) hb),fun b o q n hb _=>?_,fun b o q n _=>by rw [zai (ne b n)]; exact n,fun b o q _=>u.th b o q,fun b xs q=>?_,fun b o v q=>?_,fun b ps q=>⟨#[],?_⟩⟩,?_,cov⟩
  · obtain ⟨_,o1,g,nf⟩:=ff.mem (show b∈X.stack.filterMap (·.frame) from hb)
    rw [q] at g
    cases g
    exact u.sl b o q nf
  · rw [zai fun z=>by rw [z,he] at q; cases q]; exact q
  · rw [zai fun z=>by rw [z,he] at q; cases q]; exact q
  · rw [zai fun z=>by rw [z,he] at q; cases q]; simpa using q
  · have h0:HOk X.prog X.w (upd H e (excO e C dct false)) s.heap:=fun a o q=>by
      by_cases z:a=e
      · subst z
        rw [zac] at q
        cases q
        obtain ⟨oe,vs,e1,e2,e3,e4,e5,_⟩:=I.hok.exc he
        exact znu ⟨oe,vs,e1,e2,e3,e4,e5,fun z=>by cases z⟩
      · rw [zai z] at q
        refine (I.hok a o q).stay (fun _ _ _ g=>g) (fun b g=>?_) fun b xs g=>?_
        · rw [zai fun z=>by rw [z,he] at g; cases g]; exact g
        · rw [zai fun z=>by rw [z,he] at g; cases g]; exact g
    exact zoz h0 zac cov x0.stay x
end
end L2
namespace L2
open PySem PySem.Spec PyProof.Rows
abbrev XH:=Value->Option Addr->St->Hp->Prop
def zfb (CX:CXT) (X:Cx) (Ek:XH):Prop:=∀ (pins:List (Addr×Obj)) (σ:St) (H:Hp) (s:Shared) (e:Value) (s':Shared),Inv X pins σ H s->CX X.stack H s (fun v d H'=>Ek v d σ H') e s'->X.xe e s'
def zru (X:Cx) (Ek:XH):Prop:=∀ (pins:List (Addr×Obj)) (σ:St) (H:Hp) (s:Shared) (e C:Addr) (dct:Option Addr),Inv X pins σ H s->H e=some (excO e C dct true)->Ek (.ref e) dct σ (upd H e (excO e C dct false))->X.xe (.ref e) s
abbrev EX0:XH:=fun _ _ _ _=>False
theorem passN {P:Program} {w:World} {X:Cx}:zfb (CXX P w) X EX0:=fun _ _ _ _ _ _ _ ⟨_,_,_,_,_,_,_,_,_,_,_,h⟩=>h.elim
section
variable {X:Cx} {pins:List (Addr×Obj)} {σ:St} {H H':Hp} {s s':Shared} {B h':Heap} {e C:Addr} {dct:Option Addr} {fl:Option Value}
theorem zul (F:Fly X.prog X.w B X.stack e C dct H' s'.heap) (un:Un (frs X.stack) [] H H' s.heap s'.heap) (cv:∀ b o,s.heap.get? b=some o->H b=none->b ∉ frs X.stack->B.get? b=some o)
    (x:XAt B e (.ref C) dct fl h') (u:UpS s'.heap h'):Un (frs X.stack) [] H H' s.heap h'/\HOk X.prog X.w H' h':=by
  obtain ⟨fl0,_,x0⟩:=F.at_
  refine ⟨⟨fun b o q n hb _=>x.stay b o (cv b o q n hb),fun b o q n hb _=>?_,un.free,fun b o q hx=>?_,un.tups,un.frzs,un.tbls⟩,zoz F.hok F.he F.cov x0.stay x⟩
  · obtain ⟨sl,e1⟩:=un.slot b o q n hb (by simp)
    obtain ⟨_,o1,g,nf⟩:=F.ff.mem (show b∈X.stack.filterMap (·.frame) from hb)
    rw [e1] at g
    cases g
    obtain ⟨sl2,e2⟩:=u.sl b _ e1 nf
    exact ⟨sl2,e2⟩
  · obtain ⟨o1,e1⟩:=un.there b o q hx
    exact u.th b o1 e1
theorem zhn (I:Inv X pins σ H s) (F:Fly X.prog X.w B X.stack e C dct H' s'.heap) (hos:s'.os=s.os) (hb:AllBare s'.gens) (un:Un (frs X.stack) [] H H' s.heap s'.heap)
    (cv:∀ b o,s.heap.get? b=some o->H b=none->b ∉ frs X.stack->B.get? b=some o) (x:XAt B e (.ref C) dct fl h') (u:UpS s'.heap h'):Inv X pins σ H' { s' with heap:=h' }:=by
  obtain ⟨u2,ok⟩:=zul F un cv x u
  exact I.call' (s':={ s' with heap:=h' }) (ch:=[]) hos u2 ok hb (fun b z=>absurd z (by simp))
end
section
variable {P:Program} {w:World} {K:PySem.W.Frag} {mg:Str->Option Value} {base:Heap} {N:List Str} {qual:Str} {sc:Scope} {f:Addr} {cd:Value} {A:Around} {outer:List Env} {s₀:Shared} {H₀:Hp} {E:XK}
theorem zem:zru (cxOf (CXX P w) P w K mg base N qual sc f cd A outer s₀ H₀ E) (fun v d _ H=>E v d H):=by
 intro pins σ H s e C dct I he hE
 obtain ⟨x,ff,big⟩:=I.flyB he
 refine zoy (outer:=outer) (L:=s₀.heap.objs.size) I.ok.frames ff rfl x (.inl rfl) fun h' x' u=>?_
 obtain ⟨un,ok,cov⟩:=I.flyUn he x' u
 refine ⟨_,e,C,dct,_,rfl,I.os,I.bare,⟨⟨_,.inr rfl,x'⟩,(u.funs ff).2.2,ok,zac,cov⟩,I.out rfl un,fun b o q n hb=>?_,hE⟩
 have fr:=I.base.free b o q n (by show b ∉ ([]:List Addr); simp)
 refine big b o (I.base.keep b o q n hb (by show b ∉ ([]:List Addr); simp)) (fun z=>by rw [z,he] at fr; cases fr) fun z=>?_
 rcases List.mem_cons.mp (I.stkSub b z) with y | y
 ·exact absurd (Nat.lt_of_lt_of_le (Heap.lt_size q) (by rw [y]; exact I.ok.above)) (Nat.lt_irrefl _)
 ·exact hb y
theorem passF:zfb (CXX P w) (cxOf (CXX P w) P w K mg base N qual sc f cd A outer s₀ H₀ E) (fun v d _ H=>E v d H):=by
 intro pins σ H s e s' I q
 obtain ⟨B,ea,C,dct,H',rfl,hos,hb,F,un,cv,hE⟩:=q
 obtain ⟨fl0,hfl,x0⟩:=F.at_
 refine zoy (outer:=outer) (L:=s₀.heap.objs.size) I.ok.frames F.ff rfl x0 hfl fun h' x' u=>?_
 obtain ⟨u2,ok⟩:=zul (X:=cxOf (CXX P w) P w K mg base N qual sc f cd A outer s₀ H₀ E) F un cv x' u
 refine ⟨B,ea,C,dct,H',rfl,hos.trans I.os,hb,⟨⟨_,.inr rfl,x'⟩,(u.funs F.ff).2.2,ok,F.he,F.cov⟩,I.out rfl u2,fun b o q n hb=>?_,hE⟩
 refine cv b o (I.base.keep b o q n hb (by show b ∉ ([]:List Addr); simp)) (I.base.free b o q n (by show b ∉ ([]:List Addr); simp)) fun z=>?_
 rcases List.mem_cons.mp (I.stkSub b z) with y | y
 ·exact absurd (Nat.lt_of_lt_of_le (Heap.lt_size q) (by rw [y]; exact I.ok.above)) (Nat.lt_irrefl _)
 ·exact hb y
end
def tryCx (P:Program) (w:World) (X:Cx) (pins:List (Addr×Obj)) (Hk:XH):Cx :=
 { X with pn:=X.pn++pins,xe:=fun e s'=>∃ σ H s,Inv X pins σ H s/\CXX P w X.stack H s (fun v d H'=>Hk v d σ H') e s' }
section
variable {P:Program} {w:World} {X:Cx} {pins pins':List (Addr×Obj)} {Hk:XH} {σ:St} {H:Hp} {s:Shared}
theorem unTry (I:Inv (tryCx P w X pins Hk) pins' σ H s):Inv X pins σ H s:=by
 have o:=I.ok
 exact ⟨⟨o.mod,o.kind,o.glob,o.blt,o.above,o.inj,o.has,o.cab,o.hd,o.frames,o.stk,o.exf,o.bs,o.bsz,o.noex,o.exfs,o.funs,o.frf⟩,I.os,I.bare,I.base,I.loc,I.cell,I.free,I.freeC,fun p hp=>I.pin p (List.mem_append_left _ hp),I.hok,I.len⟩
theorem inTry (I:Inv X pins σ H s):Inv (tryCx P w X pins Hk) [] σ H s:=by
 have o:=I.ok
 exact ⟨⟨o.mod,o.kind,o.glob,o.blt,o.above,o.inj,o.has,o.cab,o.hd,o.frames,o.stk,o.exf,o.bs,o.bsz,o.noex,o.exfs,o.funs,o.frf⟩,I.os,I.bare,I.base,I.loc,I.cell,I.free,I.freeC,fun p hp=>I.pin p (by simpa [tryCx] using hp),I.hok,I.len⟩
theorem passT:zfb (CXX P w) (tryCx P w X pins Hk) Hk:=fun _ σ H s _ _ I q=>⟨σ,H,s,unTry I,q⟩
end
def sufCx (X:Cx) (e:Addr):Cx:={ X with A:=X.A.mark (some (.ref e)),calm:=false,xe:=fun _ _=>False }
section
variable {X:Cx} {pins:List (Addr×Obj)} {σ:St} {H:Hp} {s:Shared} {e:Addr}
theorem inSuf (I:Inv X pins σ H s):Inv (sufCx X e) pins σ H s:=by
 have o:=I.ok
 exact ⟨⟨o.mod,o.kind,o.glob,o.blt,o.above,o.inj,o.has,o.cab,(fun z=>by cases z),o.frames,o.stk,o.exf,o.bs,o.bsz,o.noex,o.exfs,o.funs,o.frf⟩,I.os,I.bare,I.base,I.loc,I.cell,I.free,I.freeC,I.pin,I.hok,I.len⟩
theorem unSuf (o:X.Ok) (I:Inv (sufCx X e) pins σ H s):Inv X pins σ H s :=
 ⟨o,I.os,I.bare,I.base,I.loc,I.cell,I.free,I.freeC,I.pin,I.hok,I.len⟩
end
def tCallX (sp:Sp) (Ek:XH) (t:TA):TE:=fun σ H Q=>t σ H fun vs H1=>sp vs H1 Q (fun v d H'=>Ek v d σ H')
section
variable {X:Cx} {CX:CXT} {k:Nat} {x:Str} {ps:List Str} {sp:Sp} {Ek:XH} {p pos:Pos} {e:Expr} {es:List Expr} {t:TA}
theorem zba (D:Def X.prog X.w X.K X.mg X.base CX k x ps sp) (hr:Room k X.A) (hg:Gl X x) (hx:zfb CX X Ek) (ha:PA X (e :: es) t)
    (hdb:(x == ("__debug__" : Str))=false:=by decide) (he:starEach (e :: es) X.env=(false,eval e X.env) :: starEach es X.env:=by rfl) (hpl:(backTo pos (starEach es X.env)).any (·.1)=false:=by rfl) :
    PE X (.Call (.Name x p) (e :: es) [] pos) (tCallX sp Ek t):=by
  obtain ⟨f,fd,F,hb,hk,hm⟩:=D.ex
  intro pins s σ H Q I h
  refine wpAny_Call_Name_kw (zfm I hg hm ?_ hdb)
  refine PySem.W.callWith_K (h₀:=X.base) I.ok.mod.kin hk (thn (ha pos pins s σ H _ I h) fun us s1 ⟨vs,H1,I1,r,q⟩=>⟨I1.kIn,?_⟩) he hpl
  have hl:(us++[]).length=ps.length:=by rw [List.append_nil,<- r.length]; exact F.len _ _ _ _ q
  have hbb:=hb s1 us I1.kIn hl
  rw [List.append_nil] at hbb
  refine wpAny_call (codeAny_mono (F.run X.A X.stack s1 H1 ⟨us,[]⟩ us vs Q _ hr I1.env0 hbb r q) fun r s' hq=>?_)
  cases r with
  | error e=>exact hx pins σ H1 s1 e s' I1 hq
  | ok fl =>
    cases fl with
    | ret u=>exact I1.after hq
    | next=>exact False.elim hq
    | brk=>exact False.elim hq
    | cont=>exact False.elim hq
end
theorem Src.okN {P:Program} {w:World} {K:PySem.W.Frag} {mg:Str->Option Value} {base:Heap} {CX:CXT} {x:Str} {st:Stmt} {N ps:List Str} {k:Nat} {sp:Sp} (F:Src K mg x st ps) (S:FnScope N ps (zab st)) (len:∀ vs H Q E,sp vs H Q E->vs.length=ps.length)
    (hbody:∀ (f:Addr) (cdv:Value) (A:Around) (outer:List Env) (s:Shared) (H:Hp) (vs:List V) (Q:VK) (E:XK),Room k (A.deeper (envOfC x (zab st) s.heap.objs.size f cdv))->sp vs H Q E ->
      ∃ t,PSs (cxOf CX P w K mg base N x (zab st) f cdv A outer s H E).nox (zaj st) t/\t { nx:=fun _ H'=>Q .non H',rt:=Q } (start N vs) H):Def P w K mg base CX (k+1) x ps sp:=by
  obtain ⟨f,fd,F,b,m⟩:=F.ex
  obtain ⟨oc,od,kV,doc,pm,an,cdv,ct,osl,rfl,lk,hcd⟩:=F.ex
  exact ⟨f,_,fn_of lk hcd S len fun A outer s H vs Q E hr hsp=>by
    obtain ⟨t,h,q⟩:=hbody f cdv A outer s H vs Q E hr hsp
    exact ⟨t,h.nox,q⟩,b,F.kp,m⟩
theorem Src.okX {P:Program} {w:World} {K:PySem.W.Frag} {mg:Str->Option Value} {base:Heap} {x:Str} {st:Stmt} {N ps:List Str} {k:Nat} {sp:Sp} (F:Src K mg x st ps) (S:FnScope N ps (zab st)) (len:∀ vs H Q E,sp vs H Q E->vs.length=ps.length)
    (hbody:∀ (f:Addr) (cdv:Value) (A:Around) (outer:List Env) (s:Shared) (H:Hp) (vs:List V) (Q:VK) (E:XK),Room k (A.deeper (envOfC x (zab st) s.heap.objs.size f cdv))->sp vs H Q E ->
      ∃ t,PSs (cxOf (CXX P w) P w K mg base N x (zab st) f cdv A outer s H E) (zaj st) t/\t { nx:=fun _ H'=>Q .non H',rt:=Q } (start N vs) H):Def P w K mg base (CXX P w) (k+1) x ps sp:=by
  obtain ⟨f,fd,F,b,m⟩:=F.ex
  obtain ⟨oc,od,kV,doc,pm,an,cdv,ct,osl,rfl,lk,hcd⟩:=F.ex
  exact ⟨f,_,fn_of lk hcd S len fun A outer s H vs Q E hr hsp=>hbody f cdv A outer s H vs Q E hr hsp,b,F.kp,m⟩
theorem zrv {P:Program} {w:World} {H:Hp} {h:Heap} {a:Addr} (x:HOk P w H h) (e:h.get? a=none):H a=none:=by
 cases q:H a with
 | none=>rfl
 | some o =>
  obtain ⟨ob,g⟩:=(x a o q).there
  rw [e] at g
  cases g
theorem Inv.laidN {X:Cx} {pins:List (Addr×Obj)} {σ:St} {H:Hp} {s:Shared} {h':Heap} {a:Addr} {o:HO} {t':Nat} (I:Inv X pins σ H s) (k:∀ b u,s.heap.get? b=some u->h'.get? b=some u) (hn:s.heap.get? a=none) (new:ObjOk X.prog X.w (upd H a o) h' a o) :
    Inv X pins σ (upd H a o) { s with heap:=h',toks:=t' }:=by
  have fr:=zrv I.hok hn
  refine I.un (t':=t') ⟨fun b ob q _ _ _=>k b ob q,fun b ob q _ _ _=>⟨ob.slots,k b ob q⟩,fun b ob q n _=>?_,fun b ob q _=>⟨ob,k b ob q⟩,fun b xs q=>?_,fun b ob v q=>?_,fun b ps q=>⟨#[],?_⟩⟩ fun b ob q=>?_
  · rw [zai fun z=>by rw [z,hn] at q; cases q]; exact n
  · rw [zai (zao q fr)]; exact q
  · rw [zai (zao q fr)]; exact q
  · rw [zai (zao q fr)]; simpa using q
  · by_cases z:b=a
    · subst z
      rw [zac] at q
      cases q
      exact new
    · rw [zai z] at q
      exact (I.hok b ob q).stay (fun c u _ g=>k c u g) (fun c g=>by rw [zai (zao g fr)]; exact g) fun c xs g=>by rw [zai (zao g fr)]; exact g
def tXmk (C:Addr) (t:TA):TE:=fun σ H Q=>t σ H fun vs H1=>vs.length<=1000/\∀ e,H1 e=none->Q (.ref e) (upd H1 e (excO e C none true))
def tRaise (K:PySem.W.Frag) (Ek:XH) (te:TE):TS:=fun _ σ H=>te σ H fun v H1=>∃ e C dct,v = .ref e/\H1 e=some (excO e C dct true)/\XC K C/\Ek (.ref e) dct σ (upd H1 e (excO e C dct false))
section
variable {X:Cx} {C:Addr} {x:Str} {p pos:Pos} {e:Expr} {es:List Expr} {t:TA}
theorem zen (q:PySem.W.excIn X.K C bmV "ValueError.__new__" = true) (kp:PySem.W.keepIn X.K (.ref C)=true) (hg:Gl X x) (hm:X.mg x=some (.ref C)) (ha:PA X (e :: es) t)
    (hdb:(x == ("__debug__" : Str))=false:=by decide) (he:starEach (e :: es) X.env=(false,eval e X.env) :: starEach es X.env:=by rfl) (hpl:(backTo pos (starEach es X.env)).any (·.1)=false:=by rfl) :
    PE X (.Call (.Name x p) (e :: es) [] pos) (tXmk C t):=by
  intro pins s σ H Q I h
  refine wpAny_Call_Name_kw (zfm I hg hm ?_ hdb)
  refine PySem.W.callWith_K (h₀:=X.base) I.ok.mod.kin kp (thn (ha pos pins s σ H _ I h) fun us s1 ⟨vs,H1,I1,r,hl,q1⟩=>⟨I1.kIn,?_⟩) he hpl
  refine zxq I1.kIn q (by rw [List.nil_append,<- r.length]; exact line_lit hl) fun h' ea m=>?_
  obtain ⟨tt,g1,g2,g3⟩:=m.there
  exact ⟨.ref ea,_,I1.laidN (t':=s1.toks) m.keeps m.new (znu ⟨_,_,g1,rfl,rfl,rfl,Nat.lt_of_lt_of_le (by decide) (Nat.le_refl 6),fun _=>rfl⟩),rfl,q1 ea (zrv I1.hok m.new)⟩
theorem zcl {Ek:XH} {te:TE} (K:PySem.W.Frag) (hK:X.K=K) (hc:X.calm=true) (hx:zru X Ek) (he:PE X e te):PS X (.Raise (some e) none pos) (tRaise K Ek te):=by
 subst hK
 intro pins s σ H D I h
 rw [arm_exec_Raise]
 refine wpAny_bind (wpAny_standAt ?_)
 show wpAny _ _ (raiseStmt X.env (some (do let v <- eval e X.env; standAt pos; pure v)) none) _ _ _
 refine zxr (K:=X.K) (I.ok.hd hc) (wpAny_bind (thn (he pins s σ H _ I h) fun u s1 ⟨v,H1,I1,r,ea,C,dct,hv,hh,c,q⟩=>wpAny_bind (wpAny_standAt (wpAny_pure ?_))))
 subst hv
 cases (show u=Value.ref ea from r)
 obtain ⟨oe,vs,e1,e2,e3,e4,e5,e6⟩:=I1.hok.exc hh
 exact ⟨C,ea,oe,vs,c,rfl,I1.kIn,e1,e2,e4,e6 rfl,hx pins σ H1 s1 ea C dct I1 hh q⟩
end
section
variable {prog:Program} {w:World} {A:Around} {E:Value->Shared->Prop} {s:Shared} {K:PySem.W.Frag} {e C C':Addr}
theorem zmk {oe:Obj} {b:Bool} {Q:Bool->Shared->Prop} (X:K.In s.heap) (c:XC K C') (he:s.heap.get? e=some oe) (hc:oe.cls = .ref C) (hs:PySem.W.subIn K (.ref C) (.ref C')=some b) (h:Q b s):wpAny (model prog w) A (excMatches (.ref e) (.ref C')) Q E s:=by
 obtain ⟨nm,qn,N,bs,bm,hdct,sn,sub,ab,col,dd,k0,k1,k2,k3,k5,lk,tl⟩:=c.ex
 obtain ⟨hp,g,d,t,os⟩:=s
 have cl:=X _ _ lk
 have hcB:(Value.ref C' :: bm).contains (.type "BaseException")=true:=by rw [List.contains_cons,(PySem.W.tail_of_in X tl).hasType (show bmV.contains (.type "BaseException")=true from rfl),Bool.or_true]
 have LS:=PySem.W.looks_subIn (M:=model prog w) X hs
 have f:=tc_notTuple
 unfold excMatches
 repeat (first | (with_reducible refine wpAny_loadPart_at he ?_; rw [hc]) | with_reducible refine wpAny_loadPart_at cl ?_ | (with_reducible refine wpAny_isSubtype_exc cl ?_; rw [hcB]) | (with_reducible refine LS.at ?_) | wp_step)
 cases b with
 | true=>wp_walk; exact h
 | false=>wp_walk; exact h
end
def hkOf (K:PySem.W.Frag) (C':Addr) (th:Addr->TS) (D:Ends):XH:=fun v d σ H=>∃ e C,v = .ref e/\H e=some (excO e C d false)/\PySem.W.subIn K (.ref C) (.ref C')=some true/\th e D σ H
def tTry (K:PySem.W.Frag) (C':Addr) (tb:XH->TS) (th:TS):TS:=fun D σ H=>tb (hkOf K C' (fun _=>th) D) D σ H
def tTryAs (K:PySem.W.Frag) (C':Addr) (i:Nat) (tb:XH->TS) (th:TS):TS:=fun D σ H =>
 tb (hkOf K C' (fun e D σ H=>th { nx:=fun σ H=>D.nx (σ.set i none) H,rt:=D.rt,bk:=fun σ H=>D.bk (σ.set i none) H,ct:=fun σ H=>D.ct (σ.set i none) H } (σ.set i (some (.ref e))) H) D) D σ H
section
variable {P:Program} {w:World} {X:Cx} {C':Addr} {x:Str} {np hpos pos:Pos} {body suite:List Stmt} {b0:Stmt} {tb:XH->TS} {th:TS}
theorem SP.unTry {pins:List (Addr×Obj)} {Hk:XH} {D:Ends} {f:Flow} {s':Shared} (h:SP (tryCx P w X pins Hk) [] D f s'):SP X pins D f s':=by
 cases f with
 | next=>obtain ⟨σ,H,I,q⟩:=h; exact ⟨σ,H,L2.unTry I,q⟩
 | brk=>obtain ⟨σ,H,I,q⟩:=h; exact ⟨σ,H,L2.unTry I,q⟩
 | cont=>obtain ⟨σ,H,I,q⟩:=h; exact ⟨σ,H,L2.unTry I,q⟩
 | ret u=>obtain ⟨v,σ,H,I,r,q⟩:=h; exact ⟨v,σ,H,L2.unTry I,r,q⟩
theorem SP.unSuf {pins:List (Addr×Obj)} {e:Addr} {D:Ends} {f:Flow} {s':Shared} (o:X.Ok) (h:SP (sufCx X e) pins D f s'):SP X pins D f s':=by
 cases f with
 | next=>obtain ⟨σ,H,I,q⟩:=h; exact ⟨σ,H,L2.unSuf o I,q⟩
 | brk=>obtain ⟨σ,H,I,q⟩:=h; exact ⟨σ,H,L2.unSuf o I,q⟩
 | cont=>obtain ⟨σ,H,I,q⟩:=h; exact ⟨σ,H,L2.unSuf o I,q⟩
 | ret u=>obtain ⟨v,σ,H,I,r,q⟩:=h; exact ⟨v,σ,H,L2.unSuf o I,r,q⟩
theorem zum (hP:X.prog=P) (hw:X.w=w) (K:PySem.W.Frag) (hK:X.K=K) (hst:X.stack=X.env :: X.outer) (hf:X.env.frame=some X.env.locals) (c:XC K C') (hg:Gl X x) (hm:X.mg x=some (.ref C'))
    (hb:∀ pins Hk,PSs (tryCx P w X pins Hk) body (tb Hk)) (hs:∀ e,PSs (sufCx X e) (b0 :: suite) th) (hdb:(x == ("__debug__" : Str))=false:=by decide) :
    PS X (.Try body [.ExceptHandler (some (.Name x np)) none (b0 :: suite) hpos] [] [] pos) (tTry K C' tb th):=by
  subst hP hw hK
  intro pins s σ H D I h
  refine wpAny_Try_except (wpAny_mono (hb pins _ [] s σ H D (inTry I) h) (fun f s1 z=>?_) fun ev s1 z=>?_)
  · have z:=SP.unTry z
    cases f with
    | next=>obtain ⟨σ1,H1,I1,q⟩:=z; exact wpAny_execs_nil ⟨σ1,H1,I1,q⟩
    | brk=>exact z
    | cont=>exact z
    | ret u=>exact z
  · obtain ⟨σ1,H1,s2,J,B,ea,C,dct,H',rfl,hos,hbr,F,un,cv,e2,C2,hv,he2,hsub,q⟩:=z
    cases hv
    have eC:C2=C/\True:=by
      obtain ⟨oe,vs,g1,g2,_⟩:=F.hok.exc he2
      obtain ⟨oe',vs',g1',g2',_⟩:=F.hok.exc F.he
      rw [g1] at g1'
      cases g1'
      rw [g2] at g2'
      exact ⟨Value.ref.inj g2',trivial⟩
    obtain ⟨rfl,_⟩:=eC
    obtain ⟨fl0,hfl,x0⟩:=F.at_
    refine znt (outer:=X.outer) (by rw [<- hst]; exact J.ok.frames) (by rw [<- hst]; exact F.ff) hf x0 hfl fun h1 x1 u1=>?_
    refine zhm (s:={ s1 with heap:=h1 }) x1 fun h2 x2 u2=>?_
    have J2:=zhn J F hos hbr un cv x2 (u1.trans u2)
    refine wpAny_handleBy_cons (codeAny_handlers_test (zfm (X:=sufCx X ea) (inSuf J2) hg hm ?_ hdb)) (by intro z; cases z)
    obtain ⟨oe,vs,g1,g2,_⟩:=x2.ex
    refine zmk J2.kIn c g1 g2 hsub (codeAny_handlers_suite ?_)
    refine zhm (s:={ s1 with heap:=h2 }) x2 fun h3 x3 u3=>?_
    have J3:=zhn J F hos hbr un cv x3 ((u1.trans u2).trans u3)
    exact wpAny_mono (hs ea pins _ σ1 H' D (inSuf J3) q) (fun f s4 z=>SP.unSuf J3.ok z) fun _ _ z=>False.elim z
theorem zkq {M:Model} {A:Around} {E:Value->Shared->Prop} {pins:List (Addr×Obj)} {σ:St} {H:Hp} {s:Shared} {i:Nat} {n:Str} {pos:Pos} {Q:Unit->Shared->Prop} (I:Inv X pins σ H s) (hN:X.N.Nodup) (hi:X.N[i]? = some n) (hl:X.env.scope.names.lookup n=some .local)
    (h:∀ s',Inv X pins (σ.set i none) H s'->Q () s'):wpAny M A (do bindName X.env n .none; unbindBehindTheSuite X.env n pos) Q E s:=by
  have hcls:(X.env.scope.kind == .class || (X.env.scope.kind == .module && X.env.locals != X.env.globals))=false:=by rw [I.ok.kind]; rfl
  refine wpAny_bind (wpAny_bindName (zga (v:=V.non) I hN hi (.inl hl) rfl (fun s1 I1=>?_) (.inr hl)))
  unfold unbindBehindTheSuite
  refine wpAny_onRaise ?_
  obtain ⟨m,hn,hlk⟩:=id I1.loc
  have hil:i < σ.length:=by rw [I.len]; exact (List.getElem?_eq_some_iff.mp hi).1
  obtain ⟨u,ru,lk⟩:=hlk i n .non hi (by rw [List.getElem?_set_self hil]) (.inl hl)
  have mv:m n=some u:=by
    rcases lk with ⟨_,z⟩ | ⟨z,_⟩
    · exact z
    · rcases z with z | z
      · rw [show X.env.kindOf n=some .local from hl] at z; cases z
      · rw [show X.env.kindOf n=some .local from hl] at z; cases z
  refine wpAny_unbindName_local (show X.env.kindOf n=some .local from hl) hn mv hcls fun h' u' hn' hs=>h _ ?_
  have cne:=I1.cne
  refine ⟨I1.ok,I1.os,I1.bare,⟨fun b o e n hb hx=>?_,fun b o e n hb hx=>?_,I1.base.free,fun b o e hx=>?_,I1.base.tups,I1.base.frzs,I1.base.tbls⟩,⟨_,hn',fun j y v' e1 e2 e3=>?_⟩,fun y c e=>?_,I1.free,I1.freeC,fun p hp=>?_,fun b ob e=>?_,?_⟩
  · exact (hs.2 b (Nat.ne_of_lt (Nat.lt_of_lt_of_le (Heap.lt_size e) I1.ok.above))).trans (I1.base.keep b o e n hb hx)
  · obtain ⟨sl,e1⟩:=I1.base.slot b o e n hb hx
    exact ⟨sl,(hs.2 b (Nat.ne_of_lt (Nat.lt_of_lt_of_le (Heap.lt_size e) I1.ok.above))).trans e1⟩
  · obtain ⟨o',e1⟩:=I1.base.there b o e hx
    exact ⟨o',(hs.2 b (Nat.ne_of_lt (Nat.lt_of_lt_of_le (Heap.lt_size e) I1.ok.above))).trans e1⟩
  · by_cases hj:j=i
    · subst hj
      rw [List.getElem?_set_self hil] at e2
      cases e2
    · have e2':(σ.set i (some V.non))[j]? = some (some v'):=by
        rw [List.getElem?_set_ne (Ne.symm hj)] at e2 ⊢; exact e2
      obtain ⟨u1,r1,q⟩:=hlk j y v' e1 e2' e3
      refine ⟨u1,r1,?_⟩
      rcases q with ⟨k,e⟩ | ⟨k,c,e,z⟩
      · refine .inl ⟨k,?_⟩
        have:y≠n:=fun e=>hj (zkj hN e1 (e ▸ hi))
        simp [this,e]
      · exact .inr ⟨k,c,e,z.sameBut hs (cne y c e)⟩
  · obtain ⟨w',z⟩:=I1.cell y c e
    exact ⟨w',z.sameBut hs (cne y c e)⟩
  · obtain ⟨e,n,ne,nf,d⟩:=I1.pin p hp
    exact ⟨(hs.2 p.1 ne).trans e,n,ne,nf,d⟩
  · refine (I1.hok b ob e).stay (fun c w' hc q=>(hs.2 c ?_).trans q) (fun _ q=>q) fun _ _ q=>q
    rintro rfl
    have fr:H X.env.locals=none:=I1.free
    rcases hc with z | hc
    · rw [<- z,fr] at e; cases e
    · rw [fr] at hc; cases hc
  · have:=I1.len
    rw [List.length_set] at this ⊢
    exact this
end
end L2
namespace L2
open PySem PySem.Spec PyProof.Rows
def XFull (H:Hp) (dct:Option Addr):Prop:=dct=none\/∃ d fs,dct=some d/\H d=some (xdO d fs)
theorem zxs {d:Addr} {fs:List (Str×V)} {h:Heap} (x:XDt d fs h):∃ o,h.get? d=some o:=by
 obtain ⟨mA,⟨o,es,ep,e1,_⟩,_⟩:=x
 exact ⟨o,e1⟩
theorem zti {P:Program} {w:World} {H:Hp} {h:Heap} {e C:Addr} {dct:Option Addr} {fr:Bool} (x:HOk P w H h) (he:H e=some (excO e C dct fr)) (hf:XFull H dct):∃ ox od,PySem.W.InstAt h e ox C od:=by
 obtain ⟨oe,vs,e1,e2,e3,e4,_⟩:=x.exc he
 have no:PySem.W.notCls oe=true:=by unfold PySem.W.notCls; rw [e4]
 rcases hf with rfl | ⟨d,fs,rfl,hd⟩
 ·exact ⟨oe,none,e1,e2,no,by rw [e3]; trivial⟩
 ·obtain ⟨o,g⟩:=zxs (x.xd hd)
  exact ⟨oe,some o,e1,e2,no,by rw [e3]; exact g⟩
def zun (K:PySem.W.Frag):List V->Hp->VK->Prop:=fun xs H Q=>∃ e C dct fr c cv b,xs = [.ref e,c]/\H e=some (excO e C dct fr)/\XFull H dct/\XC K C/\clsV c=some cv/\PySem.W.kitOne K (.ref C) cv=some b/\Q (.bl b) H
section
variable {X:Cx}
theorem zdz (K:PySem.W.Frag) (hK:X.K=K):CallR X (.builtin "isinstance") (zun K):=by
 subst hK
 intro pins s σ H xs us Q I r h
 obtain ⟨e,C,dct,fr,c,cv,b,rfl,he,hf,xc,hc,k,q⟩:=h
 obtain ⟨u,v,rfl,rx,rc⟩:=Vals.two r
 cases (show u=Value.ref e from rx)
 have ec:v=cv:=by
  cases c with
  | ty n=>cases (show v=Value.type n from rc); exact Option.some.inj hc
  | ref a=>cases (show v=Value.ref a from rc); exact Option.some.inj hc
  | _=>cases hc
 subst ec
 exact PySem.W.kia_one (zth xc) I.kIn (zti I.hok he hf) k (fun z=>nomatch z) fun tk=>⟨.bl b,H,I.tok _,rfl,q⟩
end
end L2
namespace L2
open PySem PySem.Spec PyProof.Rows
section
variable {K:PySem.W.Frag} {C C':Addr}
theorem zey (q:PySem.W.excIn K C bmV "ValueError.__new__" = true):∃ nm q N bs bm hdct sn sub ab col dd k0 k1 k2 k3 k5,K.lookup C=some (excClassObj nm q C N bs bm hdct sn sub ab col dd k0 k1 k2 k3 k5 "ValueError.__new__")/\PySem.W.tailIn K bmV bm=true:=by
 obtain ⟨nm,q,N,bs,bm,hdct,sn,sub,ab,col,dd,k0,k1,k2,k3,k5,l,t,_⟩:=XC.plain q
 exact ⟨nm,q,N,bs,bm,hdct,sn,sub,ab,col,dd,k0,k1,k2,k3,k5,l,t⟩
theorem zhz {cd:ClassData} {b:Bool} (n:(Value.ref C == Value.ref C')=false) (hc:PySem.W.clsIn K C'=some cd) (ht:PySem.W.typeIn K (.ref C')=some (.type "type")) (hs:PySem.W.subIn K (.ref C) (.ref C')=some b):PySem.W.kitOne K (.ref C) (.ref C')=some b:=by
 unfold PySem.W.kitOne
 rw [if_neg (by rw [n]; decide)]
 unfold PySem.W.kitCls
 dsimp only
 rw [if_pos (by rw [hc,ht]; rfl)]
 exact hs
end
end L2
namespace L2
open PySem PySem.Spec PyProof.Rows
end L2
namespace L2
open PySem PySem.Spec PyProof.Rows
section
variable {α:Type} {enc:α->List V} {H H':Hp} {ps:List Addr} {qs:List α}
end
abbrev F2:=Int×Int
def f2 (q:F2):List V:=[.int q.1,.int q.2]
end L2
namespace Sw
open L2
def nrm (q:F2):F2:=(rN q.1 q.2,rD q.1 q.2)
theorem nrm_fr {q:F2} (h:q.2≠0):Fr (nrm q).1 (nrm q).2:=zxo h
theorem nrm_cross {q:F2} (h:q.2≠0):(nrm q).1*q.2=(nrm q).2*q.1:=zrn h
end Sw
namespace L2
open PySem PySem.Spec PyProof.Rows
theorem zrw {H:Hp} {l:Addr} {xs:List V} {y:V} {Q:VK} (h:H l=some (.lst xs)) (hz:xs.length<1000) (q:Q .non (upd H l (.lst (xs++[y])))):zrh (.ref l) [y] H Q:=⟨l,xs,y,rfl,rfl,h,line_lt hz,q⟩
theorem zpa {K:PySem.W.Frag} {H:Hp} {l:Addr} {xs:List V} (h:H l=some (.lst xs)):tyV K "list" (.ref l) H:=.inl ⟨rfl,_,.of h⟩
end L2
namespace L2
open PySem PySem.Spec PyProof.Rows
def tCallN (sp:Sp) (t:TA):TE:=fun σ H Q=>t σ H fun vs H1=>sp vs H1 Q E0
section
variable {P:Program} {w:World} {X:Cx} {k:Nat} {x:Str} {ps:List Str} {sp:Sp} {p pos:Pos} {e:Expr} {es:List Expr} {t:TA}
end
end L2
namespace L2
open PySem PySem.Spec PyProof.Rows
theorem zho {K:PySem.W.Frag} {H:Hp} {e C:Addr} {dct:Option Addr} {fr:Bool} {c:V} {cv:Value} {b:Bool} {Q:VK} (he:H e=some (excO e C dct fr)) (hf:XFull H dct) (xc:XC K C) (hc:clsV c=some cv) (k:PySem.W.kitOne K (.ref C) cv=some b) (q:Q (.bl b) H):zun K [.ref e,c] H Q :=
 ⟨e,C,dct,fr,c,cv,b,rfl,he,hf,xc,hc,k,q⟩
end L2
namespace L2
open PySem PySem.Spec PyProof.Rows
end L2
namespace L2
open PySem PySem.Spec PyProof.Rows
section
variable {X:Cx} {o value:Expr} {f:Str} {pos pos':Pos} {ta tv:TE}
end
def tXmk1 (C:Addr) (sp:Sp) (t:TA):TE:=fun σ H Q=>t σ H fun vs H1=>vs.length<=1000/\∀ e,H1 e=none->sp (.ref e :: vs) (upd H1 e (excO e C none true)) (fun v H2=>v = .non/\Q (.ref e) H2) E0
end L2
namespace L2
open PySem PySem.Spec PyProof.Rows
end L2
namespace L2
open PySem PySem.Spec PyProof.Rows
section
variable {X:Cx}
end
end L2
namespace Sw
open L2
def Fine (i:Nat) (b:Int) (q:Q4):Prop:=i<60/\0<=q.1/\q.1<=1000000000000/\0<=q.2.1/\q.2.1<=11/\1<=q.2.2.1/\q.2.2.1<=1000000/\1<=q.2.2.2/\q.2.2.2<=1000000/\b<=q.1
instance (i:Nat) (b:Int) (q:Q4):Decidable (Fine i b q):=by unfold Fine; infer_instance
end Sw
namespace L2
open PySem PySem.Spec PyProof.Rows
def BindsV (K:PySem.W.Frag) (fd:FuncData) (ps:List Str) (dvs:List V):Prop:=∃ ds,Vals dvs ds/\Binds K fd ps ds
theorem BindsV.nil {K:PySem.W.Frag} {fd:FuncData} {ps:List Str} (h:Binds K fd ps []):BindsV K fd ps []:=⟨[],.nil,h⟩
structure FunE (K:PySem.W.Frag) (x qual:Str) (st:Stmt) (f:Addr) (fd:FuncData):Prop where
 ex:∃ (oc:Value) (od:Option Addr) (dV kV doc pm:Value) (an:Option Addr) (cdv ct:Value) (osl:Array (Option Value)),
  fd=PySem.W.fnOf x qual (zam st) (zaj st) (zab st) dV kV doc pm an cdv ct/\K.lookup f=some ⟨oc,od,.func fd,osl⟩/\PySem.W.codeIn K cdv qual=true
theorem zat {K:PySem.W.Frag} {x qual:Str} {st:Stmt} {f:Addr} {oc:Value} {od an:Option Addr} {osl:Array (Option Value)} {dV kV doc pm cdv ct:Value} (l:K.lookup f=some ⟨oc,od,.func (PySem.W.fnOf x qual (zam st) (zaj st) (zab st) dV kV doc pm an cdv ct),osl⟩)
    (c:PySem.W.codeIn K cdv qual=true):FunE K x qual st f (PySem.W.fnOf x qual (zam st) (zaj st) (zab st) dV kV doc pm an cdv ct):=⟨⟨oc,od,dV,kV,doc,pm,an,cdv,ct,osl,rfl,l,c⟩⟩
theorem zea {K:PySem.W.Frag} {fd:FuncData} {ps:List Str} {ds:List Value} {T:Addr} {oc:Value} {od:Option Addr} {n:Nat} {osl:Array (Option Value)} {items:Array Value} (hd:fd.defaults = .ref T) (lk:K.lookup T=some ⟨oc,od,.seq items n,osl⟩)
    (h:∀ us:List Value,(us++ds).length=ps.length->∃ k:Option (Array Value)->Sem (List (Str×Value)),bindArgs fd ⟨us,[]⟩ = seqItems? fd.defaults >>= k/\k (some items)=pure (ps.zip (us++ds))):Binds K fd ps ds:=fun s us kx hl=>by
  obtain ⟨k,h1,h2⟩:=h us hl
  exact BindsTo.of_defaults hd (kx _ _ lk) rfl h1 h2
structure MethD (P:Program) (w:World) (K:PySem.W.Frag) (mg:Str->Option Value) (base:Heap) (CX:CXT) (k:Nat) (C:Addr) (m:Str) (ps:List Str) (dss:List (List V)) (sp:Sp):Prop where
 ex:∃ (f:Addr) (fd:FuncData),FnOk P w K mg base CX k f fd ps sp/\Meth K C m f/\∀ dvs∈dss,BindsV K fd ps dvs
structure MkD (P:Program) (w:World) (K:PySem.W.Frag) (mg:Str->Option Value) (base:Heap) (CX:CXT) (k:Nat) (C:Addr) (ps:List Str) (dss:List (List V)) (sp:Sp):Prop where
 ex:∃ (f:Addr) (fd:FuncData),FnOk P w K mg base CX k f fd ps sp/\Mk K C f/\∀ dvs∈dss,BindsV K fd ps dvs
structure SrcM (K:PySem.W.Frag) (C:Addr) (m qual:Str) (st:Stmt) (ps:List Str) (dss:List (List V)):Prop where
 ex:∃ (f:Addr) (fd:FuncData),FunE K m qual st f fd/\Meth K C m f/\∀ dvs∈dss,BindsV K fd ps dvs
structure SrcK (K:PySem.W.Frag) (C:Addr) (qual:Str) (st:Stmt) (ps:List Str) (dss:List (List V)):Prop where
 ex:∃ (f:Addr) (fd:FuncData),FunE K "__init__" qual st f fd/\Mk K C f/\∀ dvs∈dss,BindsV K fd ps dvs
section
variable {P:Program} {w:World} {K:PySem.W.Frag} {mg:Str->Option Value} {base:Heap} {CX:CXT} {C:Addr} {m qual:Str} {st:Stmt} {N ps:List Str} {dss:List (List V)} {k:Nat} {sp:Sp}
theorem SrcM.okN (F:SrcM K C m qual st ps dss) (S:FnScope N ps (zab st)) (len:∀ vs H Q E,sp vs H Q E->vs.length=ps.length)
    (hbody:∀ (f:Addr) (cdv:Value) (A:Around) (outer:List Env) (s:Shared) (H:Hp) (vs:List V) (Q:VK) (E:XK),Room k (A.deeper (envOfC qual (zab st) s.heap.objs.size f cdv))->sp vs H Q E ->
      ∃ t,PSs (cxOf CX P w K mg base N qual (zab st) f cdv A outer s H E).nox (zaj st) t/\t { nx:=fun _ H'=>Q .non H',rt:=Q } (start N vs) H):MethD P w K mg base CX (k+1) C m ps dss sp:=by
  obtain ⟨f,fd,F,me,b⟩:=F.ex
  obtain ⟨oc,od,dV,kV,doc,pm,an,cdv,ct,osl,rfl,lk,hcd⟩:=F.ex
  exact ⟨f,_,fn_of lk hcd S len fun A outer s H vs Q E hr hsp=>by
    obtain ⟨t,h,q⟩:=hbody f cdv A outer s H vs Q E hr hsp
    exact ⟨t,h.nox,q⟩,me,b⟩
theorem SrcM.okX (F:SrcM K C m qual st ps dss) (S:FnScope N ps (zab st)) (len:∀ vs H Q E,sp vs H Q E->vs.length=ps.length)
    (hbody:∀ (f:Addr) (cdv:Value) (A:Around) (outer:List Env) (s:Shared) (H:Hp) (vs:List V) (Q:VK) (E:XK),Room k (A.deeper (envOfC qual (zab st) s.heap.objs.size f cdv))->sp vs H Q E ->
      ∃ t,PSs (cxOf (CXX P w) P w K mg base N qual (zab st) f cdv A outer s H E) (zaj st) t/\t { nx:=fun _ H'=>Q .non H',rt:=Q } (start N vs) H):MethD P w K mg base (CXX P w) (k+1) C m ps dss sp:=by
  obtain ⟨f,fd,F,me,b⟩:=F.ex
  obtain ⟨oc,od,dV,kV,doc,pm,an,cdv,ct,osl,rfl,lk,hcd⟩:=F.ex
  exact ⟨f,_,fn_of lk hcd S len fun A outer s H vs Q E hr hsp=>hbody f cdv A outer s H vs Q E hr hsp,me,b⟩
theorem SrcK.okN (F:SrcK K C qual st ps dss) (S:FnScope N ps (zab st)) (len:∀ vs H Q E,sp vs H Q E->vs.length=ps.length)
    (hbody:∀ (f:Addr) (cdv:Value) (A:Around) (outer:List Env) (s:Shared) (H:Hp) (vs:List V) (Q:VK) (E:XK),Room k (A.deeper (envOfC qual (zab st) s.heap.objs.size f cdv))->sp vs H Q E ->
      ∃ t,PSs (cxOf CX P w K mg base N qual (zab st) f cdv A outer s H E).nox (zaj st) t/\t { nx:=fun _ H'=>Q .non H',rt:=Q } (start N vs) H):MkD P w K mg base CX (k+1) C ps dss sp:=by
  obtain ⟨f,fd,F,me,b⟩:=F.ex
  obtain ⟨oc,od,dV,kV,doc,pm,an,cdv,ct,osl,rfl,lk,hcd⟩:=F.ex
  exact ⟨f,_,fn_of lk hcd S len fun A outer s H vs Q E hr hsp=>by
    obtain ⟨t,h,q⟩:=hbody f cdv A outer s H vs Q E hr hsp
    exact ⟨t,h.nox,q⟩,me,b⟩
theorem SrcK.okX (F:SrcK K C qual st ps dss) (S:FnScope N ps (zab st)) (len:∀ vs H Q E,sp vs H Q E->vs.length=ps.length)
    (hbody:∀ (f:Addr) (cdv:Value) (A:Around) (outer:List Env) (s:Shared) (H:Hp) (vs:List V) (Q:VK) (E:XK),Room k (A.deeper (envOfC qual (zab st) s.heap.objs.size f cdv))->sp vs H Q E ->
      ∃ t,PSs (cxOf (CXX P w) P w K mg base N qual (zab st) f cdv A outer s H E) (zaj st) t/\t { nx:=fun _ H'=>Q .non H',rt:=Q } (start N vs) H):MkD P w K mg base (CXX P w) (k+1) C ps dss sp:=by
  obtain ⟨f,fd,F,me,b⟩:=F.ex
  obtain ⟨oc,od,dV,kV,doc,pm,an,cdv,ct,osl,rfl,lk,hcd⟩:=F.ex
  exact ⟨f,_,fn_of lk hcd S len fun A outer s H vs Q E hr hsp=>hbody f cdv A outer s H vs Q E hr hsp,me,b⟩
end
def zpb (C:Addr) (m:Str) (sp:Sp) (dvs:List V) (Ek:XH) (ta:TE) (t:TA):TE:=fun σ H Q=>ta σ H fun x H1=>∃ a dx fs,x = .ref a/\H1 a=some (.ins C dx fs)/\fs.lookup m=none /\
 t σ H1 fun vs H2=>sp (x :: (vs++dvs)) H2 Q (fun v d H'=>Ek v d σ H')
def tMakeX (C:Addr) (sp:Sp) (dvs:List V) (Ek:XH) (t:TA):TE:=fun σ H Q=>t σ H fun vs H1=>∀ x dx,H1 x=none->H1 dx=none->dx≠x ->
 sp (.ref x :: (vs++dvs)) (upd (upd H1 dx (.own x)) x (.ins C dx [])) (fun v H2=>v = .non/\Q (.ref x) H2) (fun v d H'=>Ek v d σ H')
section
variable {X:Cx} {CX:CXT} {k:Nat} {f C:Addr} {fd:FuncData} {ps:List Str} {sp:Sp} {dvs:List V} {dss:List (List V)} {Ek:XH} {x m:Str} {p pos apos:Pos} {e o:Expr} {es:List Expr} {ta:TE} {t:TA}
theorem znv {pins:List (Addr×Obj)} {σ:St} {H:Hp} {s:Shared} {Q:VK} {us:List Value} {vs:List V} (F:FnOk X.prog X.w X.K X.mg X.base CX k f fd ps sp) (hr:Room k X.A) (hb:BindsV X.K fd ps dvs) (hx:zfb CX X Ek)
    (I:Inv X pins σ H s) (r:Vals vs us) (h:sp (vs++dvs) H Q (fun v d H'=>Ek v d σ H')):wpAny (model X.prog X.w) X.A (call (.ref f) us) (EP X pins σ Q) X.xe s:=by
  obtain ⟨ds,hd,hb⟩:=hb
  have r2:Vals (vs++dvs) (us++ds):=r.append hd
  have hl:(us++ds).length=ps.length:=by rw [<- r2.length]; exact F.len _ _ _ _ h
  refine wpAny_call (codeAny_mono (F.run X.A X.stack s H ⟨us,[]⟩ (us++ds) (vs++dvs) Q _ hr I.env0 (hb s us I.kIn hl) r2 h) fun r s' hq=>?_)
  cases r with
  | error e=>exact hx pins σ H s e s' I hq
  | ok fl =>
    cases fl with
    | ret u=>exact I.after hq
    | next=>exact False.elim hq
    | brk=>exact False.elim hq
    | cont=>exact False.elim hq
theorem zap {pl:Sem Bool} (D:MethD X.prog X.w X.K X.mg X.base CX k C m ps dss sp) (hin:dvs∈dss) (c:Cls X.K C) (hr:Room k X.A) (hx:zfb CX X Ek) (he:PE X o ta) (ha:PA X (e :: es) t)
    (hst:starEach (e :: es) X.env=(false,eval e X.env) :: starEach es X.env:=by rfl) (hpl:(backTo pos (starEach es X.env)).any (·.1)=false:=by rfl)
    (ht:eval (.Call (.Attribute o m apos) (e :: es) [] pos) X.env=(do
      let ov <- eval o X.env
      standAt apos.atName
      let (f,first) <- holding [ov] (getMethod ov m pl)
      callWith pos f first (backTo pos (starEach (e :: es) X.env)) (backToKw pos (keywordEach [] X.env))):=by rfl) :
    PE X (.Call (.Attribute o m apos) (e :: es) [] pos) (zpb C m sp dvs Ek ta t):=by
  obtain ⟨f,fd,F,hm,hb⟩:=D.ex
  intro pins s σ H Q I h
  refine PySem.W.methodCall_KW (pl:=pl) (thn (he pins s σ H _ I h) fun u s1 ⟨x,H1,I1,rx,a,dx,fs,ex,ea,l,q⟩=>?_) ht
  subst ex
  obtain rfl:u=Value.ref a:=rx
  refine zkd I1 ea c hm l ?_
  refine PySem.W.callWith_K (first:=[.ref a]) (h₀:=X.base) I.ok.mod.kin hm.kp (thn (ha pos pins s1 σ H1 _ I1 q) fun us s2 ⟨vs,H2,I2,r,q2⟩=>⟨I2.kIn,?_⟩) hst hpl
  exact znv (us:=.ref a :: us) (vs:=.ref a :: vs) F hr (hb _ hin) hx I2 (.cons rfl r) q2
theorem zfw {pl:Sem Bool} (D:MethD X.prog X.w X.K X.mg X.base CX k C m ps dss sp) (hin:dvs∈dss) (c:Cls X.K C) (hr:Room k X.A) (hx:zfb CX X Ek) (he:PE X o ta)
    (ht:eval (.Call (.Attribute o m apos) [] [] pos) X.env=(do
      let ov <- eval o X.env
      standAt apos.atName
      let (f,first) <- holding [ov] (getMethod ov m pl)
      callWith pos f first (backTo pos (starEach [] X.env)) (backToKw pos (keywordEach [] X.env))):=by rfl) :
    PE X (.Call (.Attribute o m apos) [] [] pos) (zpb C m sp dvs Ek ta tNil):=by
  obtain ⟨f,fd,F,hm,hb⟩:=D.ex
  intro pins s σ H Q I h
  refine PySem.W.methodCall_KW (pl:=pl) (thn (he pins s σ H _ I h) fun u s1 ⟨x,H1,I1,rx,a,dx,fs,ex,ea,l,q⟩=>?_) ht
  subst ex
  obtain rfl:u=Value.ref a:=rx
  refine zkd I1 ea c hm l ?_
  exact PySem.W.callWith_K0 (first:=[.ref a]) I1.kIn hm.kp (znv (us:=[.ref a]) (vs:=[.ref a]) F hr (hb _ hin) hx I1 (.cons rfl .nil) q)
theorem zml {pins:List (Addr×Obj)} {σ:St} {H:Hp} {s:Shared} {Q:VK} {us:List Value} {vs:List V} (M:Mk X.K C f) (F:FnOk X.prog X.w X.K X.mg X.base CX k f fd ps sp) (hr:Room (k+1) X.A) (hb:BindsV X.K fd ps dvs)
    (hx:zfb CX X Ek) (I:Inv X pins σ H s) (r:Vals vs us)
    (h:∀ x dx,H x=none->H dx=none->dx≠x->sp (.ref x :: (vs++dvs)) (upd (upd H dx (.own x)) x (.ins C dx [])) (fun v H2=>v = .non/\Q (.ref x) H2) (fun v d H'=>Ek v d σ H')) :
    wpAny (model X.prog X.w) X.A (call (.ref C) us) (EP X pins σ Q) X.xe s:=by
  obtain ⟨ds,hd,hb⟩:=hb
  have hq:=h (s.heap.objs.size+1) s.heap.objs.size (I.hok.fresh (Nat.le_succ _)) (I.hok.fresh (Nat.le_refl _)) (Nat.ne_of_lt (Nat.lt_succ_self _))
  have I2:=Inv.made (C:=C) I
  have r2:Vals (V.ref (s.heap.objs.size+1) :: (vs++dvs)) (Value.ref (s.heap.objs.size+1) :: (us++ds)):=.cons rfl (r.append hd)
  have hl:(Value.ref (s.heap.objs.size+1) :: us++ds).length=ps.length:=by
    have e:=r2.length
    rw [F.len _ _ _ _ hq] at e
    exact e.symm
  refine wpAny_call (ztb (f:=f) I.kIn M.makes M.init (beq_iff_eq.mp M.fn) (codeAny_mono (F.run _ X.stack _ _ ⟨Value.ref (s.heap.objs.size+1) :: us,[]⟩ (Value.ref (s.heap.objs.size+1) :: (us++ds)) _ _ _ (hr.make C us [])
    (I2.env0.make C us []) (hb _ (Value.ref (s.heap.objs.size+1) :: us) I2.kIn hl) r2 hq) fun r s' hq'=>?_))
  cases r with
  | error e=>exact hx pins σ _ _ e s' I2 hq'
  | ok fl =>
    cases fl with
    | ret u =>
      obtain ⟨v,H',I3,rv,ev,q3⟩:=I2.after hq'
      subst ev
      exact ⟨rv,⟨V.ref (s.heap.objs.size+1),H',I3,rfl,q3⟩⟩
    | next=>exact False.elim hq'
    | brk=>exact False.elim hq'
    | cont=>exact False.elim hq'
theorem zfq (D:MkD X.prog X.w X.K X.mg X.base CX k C ps dss sp) (hin:dvs∈dss) (hr:Room (k+1) X.A) (hx:zfb CX X Ek) (hg:Gl X x) (hm:X.mg x=some (.ref C))
    (ha:PA X (e :: es) t) (hdb:(x == ("__debug__" : Str))=false:=by decide) (he:starEach (e :: es) X.env=(false,eval e X.env) :: starEach es X.env:=by rfl) (hpl:(backTo pos (starEach es X.env)).any (·.1)=false:=by rfl) :
    PE X (.Call (.Name x p) (e :: es) [] pos) (tMakeX C sp dvs Ek t):=by
  obtain ⟨f,fd,F,M,hb⟩:=D.ex
  intro pins s σ H Q I h
  refine wpAny_Call_Name_kw (zfm I hg hm ?_ hdb)
  refine PySem.W.callWith_K (h₀:=X.base) I.ok.mod.kin M.kp (thn (ha pos pins s σ H _ I h) fun us s1 ⟨vs,H1,I1,r,q⟩=>⟨I1.kIn,?_⟩) he hpl
  exact zml M F hr (hb _ hin) hx I1 r q
theorem zmm (D:MkD X.prog X.w X.K X.mg X.base CX k C ps dss sp) (hin:dvs∈dss) (hr:Room (k+1) X.A) (hx:zfb CX X Ek) (hg:Gl X x) (hm:X.mg x=some (.ref C))
    (hdb:(x == ("__debug__" : Str))=false:=by decide):PE X (.Call (.Name x p) [] [] pos) (tMakeX C sp dvs Ek tNil):=by
  obtain ⟨f,fd,F,M,hb⟩:=D.ex
  intro pins s σ H Q I h
  refine wpAny_Call_Name_kw (zfm I hg hm ?_ hdb)
  exact PySem.W.callWith_K0 I.kIn M.kp (zml (us:=[]) M F hr (hb _ hin) hx I .nil h)
end
section
variable {X:Cx}
end
end L2
namespace L2
open PySem PySem.Spec PyProof.Rows
def Itrs (lo c:Int) (n:Nat):It:=⟨fun i _=>i<n,fun i H x H'=>H'=H/\x = .int (lo+i*c),fun i _=>n<=i⟩
structure RngOk (i j c:Int) (n:Nat):Prop where
 nz:c≠0
 np:Builtin.divisionGoesByPylong (j-i) c=false
 sm:Builtin.Range.small i j c=true
 eq:(n:Int)=Builtin.Range.rangeSize i j c
def iRng3 (ta:TA):TI:=fun σ H R=>ta σ H fun vs H1=>∃ i j c n,vs = [.int i,.int j,.int c]/\RngOk i j c n/\R (Itrs i c n) H1
section
variable {X:Cx} {tg:Expr}
end
theorem zii {wi:TI} {g:TG} {tb:TS} {D:Ends} {σ:St} {H:Hp} (h:∀ Z:It->Hp->Prop,(∀ J H1,(∃ W:Nat->Nat->St->Hp->Prop,(∃ m,W 0 m σ H1)/\∀ i m σ H,W i m σ H ->
 (J.stop i H/\D.nx σ H)\/(J.go i H/\∃ N:St->Hp->Prop,(∀ σ' H',N σ' H'->∃ m',m' < m/\W (i+1) m' σ' H')/\∀ x H',J.yld i H x H'->g x σ H' fun σ2 H2=>tb { D with nx:=N,ct:=N,bk:=D.nx } σ2 H2))->Z J H1)->wi σ H Z):tFor wi g tb D σ H:=h _ fun _ _ x=>x
theorem pickM {K:PySem.W.Frag} {H:Hp} {t:Addr} {i:Int} {Q:VK} (xs:List Int) (h0:0<=i) (h1:i<xs.length) (k:∀ z:Int,z∈xs->Q (.int z) (upd H t (.lst (xs.map V.int)))):rIxL K (.ref t) (.int i) (upd H t (.lst (xs.map V.int))) Q:=by
 have:=zhi (xs:=xs.map V.int) (j:=i.toNat) (v:=V.int (xs[i.toNat]'(by omega))) (by simp)
 rw [Int.toNat_of_nonneg h0] at this
 exact zgj (.of zac) this (k _ (List.getElem_mem _))
section
variable {X:Cx}
end
end L2
namespace Sw
theorem q_cast_ne {d:Int} (h:d≠0):(d:Rat)≠0:=by
 intro z
 exact h (Rat.intCast_inj.mp (by rw [z]; rfl))
theorem zxt (q:Rat):(q.num:Rat) / ((q.den:Int):Rat)=q:=by
 rw [<- Rat.divInt_eq_div]; exact Rat.num_divInt_den q
theorem zrx (q:Rat):0<(q.den:Int):=by
 have:=q.den_nz
 omega
theorem ztj (q:Rat):(q.den:Int)≠0:=by
 have:=q.den_nz
 omega
theorem q_num (q:Rat):(q.num:Rat)=q*((q.den:Int):Rat):=by
 have h:=zxt q
 have d:=q_cast_ne (ztj q)
 grind
theorem q_low (q:Rat):dv q.num q.den = 1:=by
 unfold dv
 have:=q.reduced
 unfold Nat.Coprime at this
 show ((Nat.gcd q.num.natAbs (q.den:Int).natAbs:Nat):Int) = 1
 rw [Int.natAbs_natCast,this]
 rfl
theorem q_fr (q:Rat):Fr q.num q.den:=⟨zrx q,q_low q⟩
theorem fr_q {n d:Int} (f:Fr n d):((n:Rat) / (d:Rat)).num=n/\((((n:Rat) / (d:Rat)).den:Nat):Int)=d:=by
 have hd:d≠0:=by have:=f.pos; omega
 refine Fr.uniq (q_fr _) f ?_
 have h:=q_num ((n:Rat) / (d:Rat))
 generalize hq:(n:Rat) / (d:Rat)=q at h ⊢
 have e:(n:Rat)=q*d:=by have:=q_cast_ne hd; grind
 have:((q.num*d:Int):Rat)=((n*(q.den:Int):Int):Rat):=by
  rw [Rat.intCast_mul,Rat.intCast_mul]
  grind
 exact Rat.intCast_inj.mp this
theorem q_lt {a b:Rat}:a.num*(b.den:Int)<b.num*(a.den:Int)↔a<b:=(Rat.lt_iff a b).symm
structure SzQ (z:Nat) (q:Rat):Prop where
 n:Sz z q.num
 d:Sz z (q.den:Int)
theorem SzQ.int {z:Nat} {n:Int} (h:Sz (z+1) n):SzQ (z+1) (n:Rat):=⟨by rw [Rat.num_intCast]; exact h,by rw [Rat.den_intCast]; exact Sz.one z⟩
end Sw
namespace L2
def fq (q:Rat):List V:=[.int q.num,.int (q.den:Int)]
theorem zuo {t b:Int} (hb:b≠0):f2 (Sw.nrm (t,b))=fq ((t:Rat) / (b:Rat)):=by
 have f:=Sw.nrm_fr (q:=(t,b)) hb
 have c:=Sw.nrm_cross (q:=(t,b)) hb
 have e:((Sw.nrm (t,b)).1:Rat) / ((Sw.nrm (t,b)).2:Rat)=(t:Rat) / (b:Rat):=by
  have h1:=Sw.q_cast_ne hb
  have h2:(((Sw.nrm (t,b)).2:Int):Rat)≠0:=Sw.q_cast_ne (by have:=f.pos; omega)
  have c':(((Sw.nrm (t,b)).1*b:Int):Rat)=(((Sw.nrm (t,b)).2*t:Int):Rat):=by rw [c]
  rw [Rat.intCast_mul,Rat.intCast_mul] at c'
  grind
 have g:=Sw.fr_q f
 rw [e] at g
 unfold f2 fq
 rw [g.1,g.2]
theorem zxu (n:Int):[V.int n,V.int 1] = fq (n:Rat):=by
 unfold fq
 rw [Rat.num_intCast,Rat.den_intCast]
 rfl
end L2
namespace Sw
end Sw
namespace L2
open PySem PySem.Spec PyProof.Rows
def But (p:Addr) (H H':Hp):Prop:=∀ b o,b≠p->H b=some o->H' b=some o
theorem Same.but {p:Addr} {H H':Hp} (h:Same H H'):But p H H':=fun b o _ e=>h b o e
theorem But.trans {p:Addr} {H H1 H2:Hp} (a:But p H H1) (b:But p H1 H2):But p H H2:=fun c o n h=>b c o n (a c o n h)
theorem zhp {p:Addr} {H:Hp} {o:HO}:But p H (upd H p o):=fun b u n e=>by rw [zai n]; exact e
theorem zkr:∀ {fs:List (Str×V)} {f:Str} {v w:V},fs.lookup f=some w->(putF f v fs).length=fs.length
 | [],f,v,w,h=>by cases h
 | (g,x) :: r,f,v,w,h=>by
  unfold putF
  by_cases e:g=f
  ·rw [if_pos e]; rfl
  ·rw [if_neg e]
   have hb:(f == g)=false:=beq_eq_false_iff_ne.mpr fun z=>e z.symm
   simp only [List.lookup,hb] at h
   show (putF f v r).length+1=r.length+1
   rw [zkr h]
theorem zan:∀ {fs:List (Str×V)} {f:Str} {v:V},(putF f v fs).length<=fs.length+1
 | [],f,v=>Nat.le_refl _
 | (g,x) :: r,f,v=>by
  unfold putF
  by_cases e:g=f
  ·rw [if_pos e]; exact Nat.le_succ _
  ·rw [if_neg e]
   show (putF f v r).length+1<=r.length+1+1
   have:=zan (fs:=r) (f:=f) (v:=v)
   omega
structure FB (fs:List (Str×V)) (d:Int) (pr:Addr) (s:Int) (pl:Addr):Prop where
 dep:fs.lookup ("depth" : Str)=some (.int d)
 rat:fs.lookup ("rate" : Str)=some (.ref pr)
 sin:fs.lookup ("since" : Str)=some (.int s)
 lef:fs.lookup ("left" : Str)=some (.ref pl)
 no:∀ m:Str,¬ m = "depth" -> ¬ m = "rate" -> ¬ m = "since" -> ¬ m = "left" -> fs.lookup m=none
 len:fs.length<900
theorem FB.mk0 (d:Int) (pr:Addr) (s:Int) (pl:Addr):FB (putF "left" (.ref pl) (putF "since" (.int s) (putF "rate" (.ref pr) (putF "depth" (.int d) [])))) d pr s pl:=by
 have n1:¬ (("depth" : Str) = "left"):=by decide +kernel
 have n2:¬ (("depth" : Str) = "since"):=by decide +kernel
 have n3:¬ (("depth" : Str) = "rate"):=by decide +kernel
 have n4:¬ (("rate" : Str) = "left"):=by decide +kernel
 have n5:¬ (("rate" : Str) = "since"):=by decide +kernel
 have n6:¬ (("since" : Str) = "left"):=by decide +kernel
 refine ⟨?_,?_,?_,?_,fun m h1 h2 h3 h4=>?_,?_⟩
 ·rw [zbb,if_neg n1,zbb,if_neg n2,zbb,if_neg n3,zbb,if_pos rfl]
 ·rw [zbb,if_neg n4,zbb,if_neg n5,zbb,if_pos rfl]
 ·rw [zbb,if_neg n6,zbb,if_pos rfl]
 ·rw [zbb,if_pos rfl]
 ·rw [zbb,if_neg h4,zbb,if_neg h3,zbb,if_neg h2,zbb,if_neg h1]; rfl
 ·have a1:=zan (fs:=[]) (f := "depth") (v:=.int d)
  have a2:=zan (fs:=putF "depth" (.int d) []) (f := "rate") (v:=.ref pr)
  have a3:=zan (fs:=putF "rate" (.ref pr) (putF "depth" (.int d) [])) (f := "since") (v:=.int s)
  have a4:=zan (fs:=putF "since" (.int s) (putF "rate" (.ref pr) (putF "depth" (.int d) []))) (f := "left") (v:=.ref pl)
  simp only [List.length_nil] at a1
  omega
structure Bk (C:Addr) (H:Hp) (p:Addr) (d:Int) (r:Rat) (s:Int) (l:Rat):Prop where
 ex:∃ dx fs pr pl,H p=some (.ins C dx fs)/\FB fs d pr s pl/\H pr=some (.tup (fq r))/\H pl=some (.tup (fq l))
end L2
namespace L2
open PySem PySem.Spec PyProof.Rows
def rFld (K:PySem.W.Frag) (f:Str) (x:V) (H:Hp) (Q:VK):Prop:=∃ a C dx fs v,x = .ref a/\H a=some (.ins C dx fs)/\Cls K C/\NoAttr K C f/\fs.lookup f=some v/\Q v H
theorem tFld_eq {K:PySem.W.Frag} {ta:TE} {f:Str} {σ:St} {H:Hp} {Q:VK}:tFld K ta f σ H Q=ta σ H fun x H1=>rFld K f x H1 Q:=rfl
theorem zar {K:PySem.W.Frag} {f:Str} {a C dx:Addr} {fs:List (Str×V)} {v:V} {H:Hp} {Q:VK} (h:H a=some (.ins C dx fs)) (c:Cls K C) (n:NoAttr K C f) (l:fs.lookup f=some v) (q:Q v H):rFld K f (.ref a) H Q:=⟨a,C,dx,fs,v,rfl,h,c,n,l,q⟩
def rSet (K:PySem.W.Frag) (f:Str) (y x:V) (H:Hp) (Z:Hp->Prop):Prop:=∃ a C dx fs,x = .ref a/\H a=some (.ins C dx fs)/\Cls K C/\NoAttr K C f/\fs.length<1000/\Z (upd H a (.ins C dx (putF f y fs)))
theorem sFld_eq {K:PySem.W.Frag} {ta tv:TE} {f:Str} {D:Ends} {σ:St} {H:Hp}:sFld K ta tv f D σ H=tv σ H fun y H1=>ta σ H1 fun x H2=>rSet K f y x H2 (D.nx σ):=rfl
theorem zcg {K:PySem.W.Frag} {f:Str} {y:V} {a C dx:Addr} {fs:List (Str×V)} {H:Hp} {Z:Hp->Prop} (h:H a=some (.ins C dx fs)) (c:Cls K C) (n:NoAttr K C f) (l:fs.length<1000) (q:Z (upd H a (.ins C dx (putF f y fs)))):rSet K f y (.ref a) H Z:=⟨a,C,dx,fs,rfl,h,c,n,l,q⟩
def rMeth (C:Addr) (m:Str) (x:V) (H:Hp) (Z:Prop):Prop:=∃ a dx fs,x = .ref a/\H a=some (.ins C dx fs)/\fs.lookup m=none/\Z
theorem tMethX_eq {C:Addr} {m:Str} {sp:Sp} {dvs:List V} {Ek:XH} {ta:TE} {t:TA} {σ:St} {H:Hp} {Q:VK} :
    zpb C m sp dvs Ek ta t σ H Q=ta σ H fun x H1=>rMeth C m x H1 (t σ H1 fun vs H2=>sp (x :: (vs++dvs)) H2 Q (fun v d H'=>Ek v d σ H')):=by
  unfold zpb rMeth
  rfl
theorem zav {C:Addr} {m:Str} {a dx:Addr} {fs:List (Str×V)} {H:Hp} {Z:Prop} (h:H a=some (.ins C dx fs)) (l:fs.lookup m=none) (z:Z):rMeth C m (.ref a) H Z:=⟨a,dx,fs,rfl,h,l,z⟩
theorem zdj {H:Hp} {x dx C:Addr} (h1:H x=none) (h2:H dx=none):Same H (upd (upd H dx (.own x)) x (.ins C dx [])):=fun b o e=>by
 rw [zai (zao e h1),zai (zao e h2)]
 exact e
theorem But.same {x:Addr} {H H1 H':Hp} (b:But x H1 H') (s:Same H H1) (h:H x=none):Same H H':=fun c o e=>b c o (zao e h) (s c o e)
theorem zxv {H:Hp} {p:Addr} {n:Int}:upd H p (.tup [.int n,.int 1]) p=some (.tup (fq (n:Rat))):=by rw [zac,zxu]
theorem zvp {n:Int} (h:Sw.Sz 5000 n):Sw.SzQ 5000 (n:Rat):=Sw.SzQ.int h
theorem zxw {t b:Int} (hb:0<b):[V.int (t / Sw.dv t b),V.int (b / Sw.dv t b)] = fq ((t:Rat) / (b:Rat)):=by
 rw [<- zuo (by omega)]
 unfold f2 Sw.nrm Sw.rN Sw.rD
 simp only [if_neg (show ¬ b<0 by omega)]
end L2
namespace L2
open PySem PySem.Spec PyProof.Rows
theorem znw {t:TS} {D:Ends} {σ:St} {H:Hp} (h:∀ R:St->Hp->Prop,(∀ σ H,D.nx σ H->R σ H)->t { D with nx:=R } σ H):t D σ H:=h D.nx fun _ _ x=>x
end L2
namespace L2
open PySem PySem.Spec PyProof.Rows
end L2
namespace Sw
end Sw
namespace L2
open PySem PySem.Spec PyProof.Rows
end L2
namespace L2
open PySem PySem.Spec PyProof.Rows
section
variable {κ:Type} [DecidableEq κ]
def valV (kvs:List (κ×V)) (k:κ):Option V:=(kvs.find? fun kv=>decide (kv.1=k)).map (·.2)
def putK (kvs:List (κ×V)) (k:κ) (v:V):List (κ×V) :=
 if (kvs.any fun kv=>decide (kv.1=k))=true then kvs.map (fun kv=>if kv.1=k then (kv.1,v) else kv) else kvs++[(k,v)]
def dropK (kvs:List (κ×V)) (k:κ):List (κ×V):=kvs.filter fun kv=>decide (kv.1≠k)
theorem zej {p:κ×V} {r:List (κ×V)} {k:κ} (e:p.1=k):valV (p :: r) k=some p.2:=by simp [valV,List.find?_cons,e]
theorem zek {p:κ×V} {r:List (κ×V)} {k:κ} (e:¬ p.1=k):valV (p :: r) k=valV r k:=by simp [valV,List.find?_cons,e]
theorem zfe (k:κ):∀ kvs:List (κ×V),(kvs.any fun kv=>decide (kv.1=k))=(valV kvs k).isSome
 | []=>rfl
 | p :: r=>by
  rw [List.any_cons]
  by_cases e:p.1=k
  ·simp only [zej e,decide_eq_true e,Bool.true_or,Option.isSome_some]
  ·rw [zek e,decide_eq_false e,Bool.false_or]; exact zfe k r
theorem zpc (k j:κ) (y:V):∀ kvs:List (κ×V),valV (kvs.map fun kv=>if kv.1=k then (kv.1,y) else kv) j=(valV kvs j).map fun x=>if j=k then y else x
 | []=>rfl
 | p :: r=>by
  have ih:=zpc k j y r
  rw [List.map_cons]
  by_cases h:p.1=k
  ·rw [if_pos h]
   by_cases e:p.1=j
   ·rw [zej (p:=(p.1,y)) e,zej e,Option.map_some,if_pos (e.symm.trans h)]
   ·rw [zek (p:=(p.1,y)) e,zek e,ih]
  ·rw [if_neg h]
   by_cases e:p.1=j
   ·rw [zej (p:=p) e,zej e,Option.map_some,if_neg (fun z=>h (e.trans z))]
   ·rw [zek (p:=p) e,zek e,ih]
theorem zmn (k j:κ) (y:V):∀ kvs:List (κ×V),valV kvs k=none->valV (kvs++[(k,y)]) j=if j=k then some y else valV kvs j
 | [],_=>by
  by_cases e:k=j
  ·rw [if_pos e.symm]; exact zej (p:=(k,y)) e
  ·rw [if_neg (fun z=>e z.symm)]; exact zek (p:=(k,y)) e
 | p :: r,hn=>by
  rw [List.cons_append]
  have hk:¬ p.1=k:=fun z=>by rw [zej z] at hn; cases hn
  rw [zek hk] at hn
  have ih:=zmn k j y r hn
  by_cases e:p.1=j
  ·rw [zej e,zej e,if_neg (fun z=>hk (e.trans z))]
  ·rw [zek e,zek e,ih]
theorem ztk (kvs:List (κ×V)) (k j:κ) (y:V):valV (putK kvs k y) j=if j=k then some y else valV kvs j:=by
 unfold putK
 by_cases a:(kvs.any fun kv=>decide (kv.1=k))=true
 ·rw [if_pos a,zpc]
  rw [zfe] at a
  by_cases e:j=k
  ·obtain ⟨x,hx⟩:=Option.isSome_iff_exists.mp a
   rw [if_pos e,e,hx,Option.map_some,if_pos rfl]
  ·rw [if_neg e]
   cases valV kvs j with
   | none=>rfl
   | some x=>rw [Option.map_some,if_neg e]
 ·rw [if_neg a]
  refine zmn k j y kvs ?_
  rw [zfe] at a
  cases q:valV kvs k with
  | none=>rfl
  | some x=>rw [q] at a; exact (a rfl).elim
theorem zfc (kvs:List (κ×V)) (k:κ) (v:V):(putK kvs k v).length<=kvs.length+1:=by
 unfold putK
 split
 ·rw [List.length_map]; omega
 ·rw [List.length_append,List.length_cons,List.length_nil]; omega
theorem RelO.isSome_eq {o:Option V} {u:Option Value} (r:RelO o u):o.isSome=u.isSome:=by
 cases o with
 | none=>cases u with
  | none=>rfl
  | some _=>exact (show False from r).elim
 | some _=>cases u with
  | none=>exact (show False from r).elim
  | some _=>rfl
theorem KV.val {kvs:List (κ×V)} {vs:List (κ×Value)} (r:KV kvs vs) (k:κ):RelO (valV kvs k) (valueAt vs k):=by
 unfold KV at r
 induction r with
 | nil=>exact True.intro
 | @cons p q ps qs h t ih =>
  obtain ⟨h1,h2⟩:=h
  by_cases e:p.1=k
  ·have e':q.1=k:=h1.symm.trans e
   have b:valueAt (q :: qs) k=some q.2:=by simp [valueAt,List.find?_cons,e']
   rw [zej e,b]; exact h2
  ·have e':¬ q.1=k:=fun z=>e (h1.trans z)
   have b:valueAt (q :: qs) k=valueAt qs k:=by simp [valueAt,List.find?_cons,e']
   rw [zek e,b]; exact ih
theorem KV.any {kvs:List (κ×V)} {vs:List (κ×Value)} (r:KV kvs vs) (k:κ):(kvs.any fun kv=>decide (kv.1=k))=vs.any fun kv=>decide (kv.1=k):=by
 unfold KV at r
 induction r with
 | nil=>rfl
 | cons h t ih=>rw [List.any_cons,List.any_cons,ih,h.1]
theorem KV.repl {kvs:List (κ×V)} {vs:List (κ×Value)} (r:KV kvs vs) (k:κ) {y:V} {u:Value} (ry:RelV y u) :
    KV (kvs.map fun kv=>if kv.1=k then (kv.1,y) else kv) (vs.map fun kv=>if kv.1=k then (kv.1,u) else kv):=by
  unfold KV at r ⊢
  induction r with
  | nil=>exact .nil
  | @cons p q ps qs h t ih =>
    rw [List.map_cons,List.map_cons]
    refine .cons ?_ ih
    obtain ⟨h1,h2⟩:=h
    by_cases e:p.1=k
    · rw [if_pos e,if_pos (h1.symm.trans e)]; exact ⟨h1,ry⟩
    · rw [if_neg e,if_neg (fun z=>e (h1.trans z))]; exact ⟨h1,h2⟩
theorem KV.put {kvs:List (κ×V)} {vs:List (κ×Value)} (r:KV kvs vs) (k:κ) {y:V} {u:Value} (ry:RelV y u):KV (putK kvs k y) (stored vs k u):=by
 unfold putK stored
 rw [r.any k]
 by_cases e:(vs.any fun kv=>decide (kv.1=k))=true
 ·rw [if_pos e,if_pos e]; exact r.repl k ry
 ·rw [if_neg e,if_neg e]; exact Paired.snoc r ⟨rfl,ry⟩
theorem KV.length {kvs:List (κ×V)} {vs:List (κ×Value)} (r:KV kvs vs):kvs.length=vs.length:=Paired.length r
end
theorem kV_is {P:Program} {w:World} {k:Key} {u:Value} (r:RelV (kV k) u):(zbf P w).is k u=true:=by
 cases k with
 | inl i=>obtain ⟨t,e⟩:=(show ∃ t,u=Value.int i t from r); subst e; exact znl P w i t
 | inr x=>obtain ⟨t,e⟩:=(show ∃ t,u=Value.str x t from r); subst e; exact znm P w x t
theorem zmo {P:Program} {w:World}:∀ {ks:List Key} {us:List Value},Vals (ks.map kV) us->ItemsAre (zbf P w) ks us
 | [],_,r=>by rw [List.map_nil] at r; cases r; exact .nil
 | k :: ks,_,r=>by
  rw [List.map_cons] at r
  cases r with
  | cons h t=>exact .cons (kV_is h) (zmo t)
abbrev KT (H:Hp):List (List Key×V)->List (List Key×Addr×Value)->Prop:=Paired fun p q=>p.1=q.1/\H q.2.1=some (.tup (p.1.map kV))/\RelV p.2 q.2.2
theorem KT.val {H:Hp} {kvs:List (List Key×V)} {xs:List (List Key×Addr×Value)} (r:KT H kvs xs) (k:List Key):RelO (valV kvs k) ((atKey xs k).map (·.2)):=by
 induction r with
 | nil=>exact True.intro
 | @cons p q ps qs h t ih =>
  obtain ⟨h1,_,h2⟩:=h
  by_cases e:p.1=k
  ·have e':q.1=k:=h1.symm.trans e
   have b:atKey (q :: qs) k=some q.2:=by simp [atKey,List.find?_cons,e']
   rw [zej e,b]; exact h2
  ·have e':¬ q.1=k:=fun z=>e (h1.trans z)
   have b:atKey (q :: qs) k=atKey qs k:=by simp [atKey,List.find?_cons,e']
   rw [zek e,b]; exact ih
theorem KT.repl {H:Hp} {kvs:List (List Key×V)} {xs:List (List Key×Addr×Value)} (r:KT H kvs xs) (k:List Key) {y:V} {u:Value} (ry:RelV y u) :
    KT H (kvs.map fun kv=>if kv.1=k then (kv.1,y) else kv) (xs.map (putAt k u)):=by
  induction r with
  | nil=>exact .nil
  | @cons p q ps qs h t ih =>
    rw [List.map_cons,List.map_cons]
    refine .cons ?_ ih
    obtain ⟨h1,h2,h3⟩:=h
    unfold putAt
    by_cases e:p.1=k
    · rw [if_pos e,if_pos (h1.symm.trans e)]; exact ⟨h1,h2,ry⟩
    · rw [if_neg e,if_neg (fun z=>e (h1.trans z))]; exact ⟨h1,h2,h3⟩
theorem KT.put {H:Hp} {kvs:List (List Key×V)} {xs:List (List Key×Addr×Value)} (r:KT H kvs xs) (k:List Key) {b:Addr} {y:V} {u:Value} (hb:H b=some (.tup (k.map kV))) (ry:RelV y u) :
    KT H (putK kvs k y) (storedH xs k b u):=by
  have e:(kvs.any fun kv=>decide (kv.1=k))=(atKey xs k).isSome:=by
    rw [zfe,(r.val k).isSome_eq,Option.isSome_map]
  unfold putK storedH
  rw [e]
  by_cases q:(atKey xs k).isSome=true
  · rw [if_pos q,if_pos q]; exact r.repl k ry
  · rw [if_neg q,if_neg q]; exact Paired.snoc r ⟨rfl,hb,ry⟩
theorem KT.keeps {H H':Hp} {kvs:List (List Key×V)} {xs:List (List Key×Addr×Value)} (r:KT H kvs xs) (ht:∀ b ys,H b=some (.tup ys)->H' b=some (.tup ys)):KT H' kvs xs :=
 Paired.mapP r fun _ _ z=>⟨z.1,ht _ _ z.2.1,z.2.2⟩
section
variable {P:Program} {w:World} {H:Hp} {h:Heap} {a:Addr}
theorem rd_of {u:HO} (ok:HOk P w H h) (e:Rd H a u):ObjOk P w H h a u:=e.ok ok
theorem dk_rd {kvs:List (Key×V)} (ok:HOk P w H h) (e:Rd H a (.dK kvs)):kvs.length<=sizeLine/\(a == sysModules)=false/\∃ vs,KV kvs vs/\h.DictOf (zbf P w) a vs :=
 show ObjOk P w H h a (.dK kvs) from rd_of ok e
theorem dk_of {kvs:List (Key×V)} (ok:HOk P w H h) (e:H a=some (.dK kvs)):kvs.length<=sizeLine/\(a == sysModules)=false/\∃ vs,KV kvs vs/\h.DictOf (zbf P w) a vs:=dk_rd ok (.inl e)
theorem zmp {ks:List Key} (ok:HOk P w H h) (e:H a=some (.tup (ks.map kV))):(tupleKind (zbf P w)).is h ks a:=by
 obtain ⟨_,its,r,o,h1,h2,n,h3⟩:=(show ObjOk P w H h a (.tup (ks.map kV)) from ok a _ e)
 exact ⟨o,its.toArray,n,h1,h2,h3,by simpa using zmo r⟩
theorem dt_rd {kvs:List (List Key×V)} (ok:HOk P w H h) (e:Rd H a (.dT kvs)):kvs.length<=sizeLine/\(a == sysModules)=false /\
    ∃ xs,KT H kvs xs/\h.DictOfH (tupleKind (zbf P w)) a xs:=by
  obtain ⟨z,y,xs,r,o,es,ep,h1,h2,h3,h4,h5⟩:=(show ObjOk P w H h a (.dT kvs) from rd_of ok e)
  refine ⟨z,y,xs,r,o,es,ep,h1,h2,h3,h4,fun x hx=>?_,h5⟩
  have all:∀ {l:List (List Key×V)} {m:List (List Key×Addr×Value)},KT H l m->∀ x∈m,(tupleKind (zbf P w)).is h x.1 x.2.1:=by
    intro l m q
    induction q with
    | nil=>intro x hx; exact nomatch hx
    | @cons p q ps qs hq t ih =>
      intro x hx
      rcases List.mem_cons.mp hx with e | hx
      · subst e
        exact zmp ok (by rw [<- hq.1]; exact hq.2.1)
      · exact ih x hx
  exact all r x hx
theorem dt_of {kvs:List (List Key×V)} (ok:HOk P w H h) (e:H a=some (.dT kvs)):kvs.length<=sizeLine/\(a == sysModules)=false /\
    ∃ xs,KT H kvs xs/\h.DictOfH (tupleKind (zbf P w)) a xs:=dt_rd ok (.inl e)
end
def DGet (H:Hp) (a:Addr) (y:V) (r:Option V):Prop :=
 (∃ kvs k,Rd H a (.dK kvs)/\y=kV k/\r=valV kvs k)\/∃ kvs k b,Rd H a (.dT kvs)/\y = .ref b/\H b=some (.tup (k.map kV))/\r=valV kvs k
def DPut (H:Hp) (a:Addr) (y v:V) (H':Hp):Prop :=
 (∃ kvs k,H a=some (.dK kvs)/\y=kV k/\kvs.length<sizeLine/\H'=upd H a (.dK (putK kvs k v))) \/
 ∃ kvs k b,H a=some (.dT kvs)/\y = .ref b/\H b=some (.tup (k.map kV))/\kvs.length<sizeLine/\H'=upd H a (.dT (putK kvs k v))
theorem DGet.k {H:Hp} {a:Addr} {kvs:List (Key×V)} {k:Key} (e:H a=some (.dK kvs)):DGet H a (kV k) (valV kvs k):=.inl ⟨kvs,k,.inl e,rfl,rfl⟩
theorem DPut.k {H:Hp} {a:Addr} {kvs:List (Key×V)} {k:Key} {v:V} (e:H a=some (.dK kvs)) (hl:kvs.length<sizeLine):DPut H a (kV k) v (upd H a (.dK (putK kvs k v))):=.inl ⟨kvs,k,e,rfl,hl,rfl⟩
section
variable {X:Cx} {pins:List (Addr×Obj)} {σ:St} {H:Hp} {s:Shared} {a:Addr} {y v:V} {u r:Value} {o:Option V} {A:Around} {E:Value->Shared->Prop}
theorem Inv.big (I:Inv X pins σ H s):sysModules<s.heap.objs.size:=by
 have h:mainGlobals<s.heap.objs.size:=(I.mod.glob.keeps I.bk).lt
 exact Nat.lt_trans (by decide) h
theorem zry {Q:Value->Shared->Prop} (hu:A.units+1<cLine) (I:Inv X pins σ H s) (g:DGet H a y (some v)) (ry:RelV y u) (h:∀ w' s',Inv X pins σ H s'->RelV v w'->Q w' s') :
    wpAny (model X.prog X.w) A (getItem (.ref a) u) Q E s:=by
  rcases g with ⟨kvs,k,e,ey,l⟩ | ⟨kvs,k,b,e,ey,eb,l⟩
  · subst ey
    obtain ⟨z,hd,vs,rel,dd⟩:=dk_rd I.hok e
    obtain ⟨w',hw,rw'⟩:=RelO.some_of (v:=v) (o:=valueAt vs k) (by rw [l]; exact rel.val k)
    exact wpAny_getItem_of (kV_is ry) dd.mapOf hw (h w' _ (I.tok _) rw')
  · subst ey
    cases (show u=Value.ref b from ry)
    obtain ⟨z,hd,xs,rel,dd⟩:=dt_rd I.hok e
    obtain ⟨w',hw,rw'⟩:=RelO.some_of (v:=v) (o:=(atKey xs k).map (·.2)) (by rw [l]; exact rel.val k)
    obtain ⟨p,hp,hp2⟩:=Option.map_eq_some_iff.mp hw
    refine wpAny_getItem_heap (tupleKind_room_in1 hu) (zmp I.hok eb) dd hp ?_
    rw [hp2]
    exact h w' _ (I.tok _) rw'
theorem d_in {Q:Value->Shared->Prop} (hu:A.units+1<cLine) (I:Inv X pins σ H s) (g:DGet H a y o) (ry:RelV y u) (h:∀ s',Inv X pins σ H s'->Q (.bool o.isSome) s') :
    wpAny (model X.prog X.w) A (compareOp .In u (.ref a)) Q E s:=by
  rcases g with ⟨kvs,k,e,ey,l⟩ | ⟨kvs,k,b,e,ey,eb,l⟩
  · subst ey
    obtain ⟨z,hd,vs,rel,dd⟩:=dk_rd I.hok e
    refine wpAny_in_of (kV_is ry) hd dd.mapOf ?_
    rw [<- (rel.val k).isSome_eq,<- l]
    exact h _ (I.tok _)
  · subst ey
    cases (show u=Value.ref b from ry)
    obtain ⟨z,hd,xs,rel,dd⟩:=dt_rd I.hok e
    refine wpAny_in_heap (tupleKind_room_in1 hu) (zmp I.hok eb) hd dd ?_
    have q:=(rel.val k).isSome_eq
    rw [Option.isSome_map] at q
    rw [<- q,<- l]
    exact h _ (I.tok _)
theorem zvq {Q:Value->Shared->Prop} (hu:A.units+1<cLine) (I:Inv X pins σ H s) (g:DGet H a y o) (ry:RelV y u) (h:∀ s',Inv X pins σ H s'->Q (.bool (!o.isSome)) s') :
    wpAny (model X.prog X.w) A (compareOp .NotIn u (.ref a)) Q E s:=by
  rcases g with ⟨kvs,k,e,ey,l⟩ | ⟨kvs,k,b,e,ey,eb,l⟩
  · subst ey
    obtain ⟨z,hd,vs,rel,dd⟩:=dk_rd I.hok e
    refine wpAny_notIn_of (kV_is ry) hd dd.mapOf ?_
    rw [<- (rel.val k).isSome_eq,<- l]
    exact h _ (I.tok _)
  · subst ey
    cases (show u=Value.ref b from ry)
    obtain ⟨z,hd,xs,rel,dd⟩:=dt_rd I.hok e
    refine wpAny_notIn_heap (tupleKind_room_in1 hu) (zmp I.hok eb) hd dd ?_
    have q:=(rel.val k).isSome_eq
    rw [Option.isSome_map] at q
    rw [<- q,<- l]
    exact h _ (I.tok _)
theorem znx {h':Heap} {t':Nat} {ob:HO} (I:Inv X pins σ H s) (mu:Mut (H a)) (hs:Heap.SameBut a s.heap h') (he:∃ q,h'.get? a=some q) (new:ObjOk X.prog X.w (upd H a ob) h' a ob) :
    Inv X pins σ (upd H a ob) { s with heap:=h',toks:=t' } :=
  I.write (x:=a) (e:=a) mu (.inl rfl) (fun b q hb z=>(hs.2 b hb).trans z) he new
theorem zup {P:Program} {w:World} {H':Hp} {h':Heap} {kvs:List (Key×V)} {vs:List (Key×Value)} (z:kvs.length<=sizeLine) (hd:(a == sysModules)=false) (rel:KV kvs vs) (dd:h'.DictOf (zbf P w) a vs) :
    ObjOk P w H' h' a (.dK kvs):=⟨z,hd,vs,rel,dd⟩
theorem zrz {H':Hp} {Q:Unit->Shared->Prop} (hu:A.units+1<cLine) (I:Inv X pins σ H s) (g:DPut H a y v H') (ry:RelV y u) (rv:RelV v r) (h:∀ s',Inv X pins σ H' s'->Q () s') :
    wpAny (model X.prog X.w) A (setItem (.ref a) u r) Q E s:=by
  rcases g with ⟨kvs,k,e,ey,l,eH⟩ | ⟨kvs,k,b,e,ey,eb,l,eH⟩
  · subst ey eH
    obtain ⟨z,hd,vs,rel,dd⟩:=dk_of I.hok e
    have hz:vs.length<=sizeLine:=by rw [<- rel.length]; exact z
    have hl:(putK kvs k v).length<=sizeLine:=by have:=zfc kvs k v; omega
    refine wpAny_setItem_pairs (hsz:=hz) (kV_is ry) dd fun h' dd' hs=>h _ ?_
    have he:∃ q,h'.get? a=some q:=let ⟨q,_,_,hq,_⟩:=dd'; ⟨q,hq⟩
    exact znx I (by rw [e]; exact True.intro) hs he (zup hl hd (rel.put k rv) dd')
  · subst ey eH
    cases (show u=Value.ref b from ry)
    obtain ⟨z,hd,xs,rel,dd⟩:=dt_of I.hok e
    have hz:xs.length<=sizeLine:=by rw [<- Paired.length rel]; exact z
    have hl:(putK kvs k v).length<=sizeLine:=by have:=zfc kvs k v; omega
    refine wpAny_setItem_heap (hsz:=hz) (tupleKind_room_in1 hu) (zmp I.hok eb) dd fun h' dd' hs=>h _ ?_
    obtain ⟨q,es,ep,hq,h2,h3,h4,_,h5⟩:=dd'
    refine znx I (by rw [e]; exact True.intro) hs ⟨q,hq⟩ ⟨hl,hd,_,(rel.put k eb rv).keeps fun c ys ec=>?_,q,es,ep,hq,h2,h3,h4,h5⟩
    rw [zai (ne_of ec e (fun z=>nomatch z))]
    exact ec
end
section
variable {X:Cx} {pins:List (Addr×Obj)} {σ:St} {H:Hp} {s:Shared} {a:Addr} {kvs:List (Key×V)} {k:Key} {u:Value} {A:Around} {E:Value->Shared->Prop}
end
def NoSl (i:Expr):Prop:=∀ ov iv,subscripted i false ov iv=operate [ov,iv] (getItem ov iv)
theorem zvr {prog:Program} {w:World} {A:Around} {E:Value->Shared->Prop} {s:Shared} {env:Env} {value slice:Expr} {pos:Pos} {T id:String} {Q:Value->Shared->Prop}
    (hl:typeLookup (.type T) "__getitem__" = pure (some (.builtin id))) (hs:NoSl slice)
    (h:wpAny (model prog w) A (eval value env) (fun o s₁=>wpAny (model prog w) A (eval slice env) (fun i s₂=>s₂.TypeIs o T/\wpAny (model prog w) A (getItem o i) Q E s₂) E s₁) E s) :
    wpAny (model prog w) A (eval (.Subscript value slice pos) env) Q E s:=by
  refine Subscript_ (wpAny_mono h (fun o s₁ h₁=>wpAny_mono h₁ (fun i s₂ h₂=>?_) fun _ _ x=>x) fun _ _ x=>x)
  obtain ⟨hT,h₂⟩:=h₂
  unfold subscriptTail
  refine wpAny_bind ?_
  rw [getitemInPython_of_ne hT.not_modules]
  refine wpAny_bind (wpAny_specialOf hT hl ?_)
  have fin:wpAny (model prog w) A (subscripted slice false o i) (fun r s₃=>wpAny (model prog w) A (letTemporaryGo value o r >>= fun _=>pure r) Q E s₃) E s₂:=by
    rw [hs o i]
    exact wpAny_operating (wpAny_mono h₂ (fun r s₃ h₃=>wpAny_bind (wpAny_letTemporaryGo (wpAny_pure h₃))) fun _ _ x=>x)
  first
    | exact wpAny_pure (wpAny_bind fin)
    | exact wpAny_bind (wpAny_pure (wpAny_bind fin))
    | exact wpAny_bind fin
theorem zny {X:Cx} {pins:List (Addr×Obj)} {σ:St} {H:Hp} {s:Shared} {a:Addr} {y:V} {o:Option V} (I:Inv X pins σ H s) (g:DGet H a y o):s.TypeIs (.ref a) "dict" := by
 rcases g with ⟨kvs,k,e,_,_⟩ | ⟨kvs,k,b,e,_,_,_⟩
 ·obtain ⟨_,_,vs,_,dd⟩:=dk_rd I.hok e
  exact dd.typeIs
 ·obtain ⟨_,_,xs,_,dd⟩:=dt_rd I.hok e
  exact dd.typeIs
def tDGet (td ty:TE):TE:=fun σ H Q=>td σ H fun x H1=>ty σ H1 fun y H2=>∃ a v,x = .ref a/\DGet H2 a y (some v)/\Q v H2
def tDIn (ty td:TE):TE:=fun σ H Q=>ty σ H fun y H1=>td σ H1 fun x H2=>∃ a o,x = .ref a/\DGet H2 a y o/\Q (.bl o.isSome) H2
def tDNotIn (ty td:TE):TE:=fun σ H Q=>ty σ H fun y H1=>td σ H1 fun x H2=>∃ a o,x = .ref a/\DGet H2 a y o/\Q (.bl (!o.isSome)) H2
def sDPut (td ty tv:TE):TS:=fun D σ H=>tv σ H fun v H1=>td σ H1 fun x H2=>ty σ H2 fun y H3=>∃ a H4,x = .ref a/\DPut H3 a y v H4/\D.nx σ H4
section
variable {X:Cx} {o i e value:Expr} {pos pos' tpos:Pos} {td ty tv:TE}
theorem zdk (hu:X.A.units+1<cLine) (ho:PE X o td) (hi:PE X i ty) (hs:NoSl i):PE X (.Subscript o i pos) (tDGet td ty):=by
 intro pins s σ H Q I h
 refine zvr PySem.F.slot_dict_getitem.lookup hs (thn (ho pins s σ H _ I h) fun u s1 ⟨x,H1,I1,rx,q1⟩=>thn (hi pins s1 σ H1 _ I1 q1) fun iv s2 ⟨y,H2,I2,ry,a,v,ex,g,q2⟩=>?_)
 subst ex
 obtain rfl:u=Value.ref a:=rx
 exact ⟨zny I2 g,zry hu I2 g ry fun w' s3 I3 rw'=>⟨v,H2,I3,rw',q2⟩⟩
theorem zpd (hu:X.A.units+1<cLine) (hi:PE X i ty) (ho:PE X o td):PC X .In i o (tDIn ty td):=by
 intro pins s σ H Q I h
 refine thn (hi pins s σ H _ I h) fun iv s1 ⟨y,H1,I1,ry,q1⟩=>thn (ho pins s1 σ H1 _ I1 q1) fun u s2 ⟨x,H2,I2,rx,a,ov,ex,g,q2⟩=>?_
 subst ex
 obtain rfl:u=Value.ref a:=rx
 exact d_in hu I2 g ry fun s3 I3=>⟨.bl ov.isSome,H2,I3,rfl,q2⟩
theorem zgv (hu:X.A.units+1<cLine) (hi:PE X i ty) (ho:PE X o td):PC X .NotIn i o (tDNotIn ty td):=by
 intro pins s σ H Q I h
 refine thn (hi pins s σ H _ I h) fun iv s1 ⟨y,H1,I1,ry,q1⟩=>thn (ho pins s1 σ H1 _ I1 q1) fun u s2 ⟨x,H2,I2,rx,a,ov,ex,g,q2⟩=>?_
 subst ex
 obtain rfl:u=Value.ref a:=rx
 exact zvq hu I2 g ry fun s3 I3=>⟨.bl (!ov.isSome),H2,I3,rfl,q2⟩
theorem zfx (hu:X.A.units+1<cLine) (ho:PE X o td) (hi:PE X i ty) (hv:PE X value tv) (hs:swapsWith value (some (.Subscript o i pos')) pos.line X.env=pure false) :
    PS X (.Assign [.Subscript o i pos'] value pos) (sDPut td ty tv):=by
  intro pins s σ H D I h
  refine wpAny_Assign_Subscript (thn (hv pins s σ H _ I h) fun r s1 ⟨v,H1,I1,rv,q1⟩=>thn (ho pins s1 σ H1 _ I1 q1) fun u s2 ⟨x,H2,I2,rx,q2⟩=>thn (hi pins s2 σ H2 _ I2 q2) fun iv s3 ⟨y,H3,I3,ry,a,H4,ex,g,q3⟩=>?_) hs
  subst ex
  obtain rfl:u=Value.ref a:=rx
  exact zrz hu I3 g ry rv fun s4 I4=>⟨σ,H4,I4,q3⟩
end
theorem zpe {P:Program} {w:World} {H:Hp} (h:Heap) (hb:sysModules<h.objs.size):ObjOk P w H (h.push { cls:=.type "dict", data:=.dict #[] }) h.objs.size (.dK []) :=
 ⟨Nat.zero_le _,beq_eq_false_iff_ne.mpr (Ne.symm (Nat.ne_of_lt hb)),[],.nil,Heap.DictOf.new h⟩
def tDNewK:TE:=fun _ H Q=>∀ p,H p=none->Q (.ref p) (upd H p (.dK []))
section
variable {X:Cx} {pos:Pos}
theorem zgb:PE X (.Dict [] [] pos) tDNewK:=fun pins s σ H Q I h =>
 wpAny_Dict_empty ⟨.ref s.heap.objs.size,_,I.laid (a:=s.heap.objs.size) (o:=.dK []) (t':=s.toks) (fun _ _ q=>Heap.get?_push_of_some _ q) (Nat.le_refl _) (zpe s.heap I.big),rfl,h _ (I.hok.fresh (Nat.le_refl _))⟩
end
def zmq:List (TE×TE)->St->Hp->(List (V×V)->Hp->Prop)->Prop
 | [],_,H,Q=>Q [] H
 | (tk,tv) :: r,σ,H,Q=>tk σ H fun x H1=>tv σ H1 fun y H2=>zmq r σ H2 fun ps H3=>Q ((x,y) :: ps) H3
abbrev VV:List (V×V)->List (Value×Value)->Prop:=Paired fun p q=>RelV p.1 q.1/\RelV p.2 q.2
def PPs (X:Cx) (pos:Pos) (keys:List (Option Expr)) (values:List Expr) (trs:List (TE×TE)):Prop :=
 ∀ (pins:List (Addr×Obj)) (s:Shared) (σ:St) (H:Hp) (Q:List (V×V)->Hp->Prop),Inv X pins σ H s->zmq trs σ H Q ->
  wpAny (model X.prog X.w) X.A (evalPairs (pairTrees keys values X.env pos)) (fun vs s'=>∃ ps H',Inv X pins σ H' s'/\VV ps vs/\Q ps H') X.xe s
theorem zvs {X:Cx} {pos:Pos}:PPs X pos [] [] []:=fun pins s σ H Q I h=>pairTrees_nil_walk ⟨[],H,I,.nil,h⟩
theorem ztl {X:Cx} {pos:Pos} {k v:Expr} {ks:List (Option Expr)} {vs:List Expr} {tk tv:TE} {trs:List (TE×TE)} (hk:PE X k tk) (hv:PE X v tv) (hr:PPs X pos ks vs trs) :
    PPs X pos (some k :: ks) (v :: vs) ((tk,tv) :: trs):=fun pins s σ H Q I h =>
  pairTrees_cons_walk (thn (hk pins s σ H _ I h) fun u s1 ⟨x,H1,I1,rx,q1⟩=>thn (hv pins s1 σ H1 _ I1 q1) fun w2 s2 ⟨y,H2,I2,ry,q2⟩ =>
    thn (hr pins s2 σ H2 _ I2 q2) fun ws s3 ⟨ps,H3,I3,rel,q3⟩=>⟨(x,y) :: ps,H3,I3,.cons ⟨rx,ry⟩ rel,q3⟩)
def zgk (kvs more:List (Key×V)):List (Key×V):=more.foldl (fun acc kv=>putK acc kv.1 kv.2) kvs
theorem KV.merge:∀ {more:List (Key×V)} {rs:List (Key×Value)} {kvs:List (Key×V)} {vs:List (Key×Value)},KV more rs->KV kvs vs->KV (zgk kvs more) (merged vs rs):=by
 intro more rs kvs vs r
 unfold KV at r
 induction r generalizing kvs vs with
 | nil=>intro q; exact q
 | @cons p q ps qs h t ih =>
  intro r0
  have e:KV (putK kvs p.1 p.2) (stored vs q.1 q.2):=by
   have:=r0.put p.1 h.2
   rw [<- h.1]; exact this
  exact ih e
theorem zgw:∀ (more kvs:List (Key×V)),(zgk kvs more).length<=kvs.length+more.length
 | [],kvs=>by show kvs.length<=kvs.length+0; omega
 | p :: r,kvs=>by
  have h1:=zgw r (putK kvs p.1 p.2)
  have h2:=zfc kvs p.1 p.2
  show (zgk (putK kvs p.1 p.2) r).length<=_
  rw [List.length_cons]; omega
theorem zkg {P:Program} {w:World}:∀ {kvs:List (Key×V)} {ws:List (Value×Value)},VV (kvs.map fun kv=>(kV kv.1,kv.2)) ws->∃ rs,Carries (zbf P w) ws rs/\KV kvs rs
 | [],_,r=>by rw [List.map_nil] at r; cases r; exact ⟨[],True.intro,.nil⟩
 | p :: kvs,_,r=>by
  rw [List.map_cons] at r
  cases r with
  | @cons a b as bs h t =>
   obtain ⟨rs,c,q⟩:=zkg (P:=P) (w:=w) t
   obtain ⟨b1,b2⟩:=b
   exact ⟨(p.1,b2) :: rs,⟨kV_is h.1,rfl,c⟩,.cons ⟨rfl,h.2⟩ q⟩
def tDisp (trs:List (TE×TE)):TE:=fun σ H Q=>∀ p,H p=none->zmq trs σ (upd H p (.dK [])) fun ps H2=>H2 p=some (.dK [])/\∃ kvs:List (Key×V),ps=kvs.map (fun kv=>(kV kv.1,kv.2))/\kvs.length<=15/\Q (.ref p) (upd H2 p (.dK (zgk [] kvs)))
theorem zvt {X:Cx} {pos:Pos} {keys:List (Option Expr)} {values:List Expr} {trs:List (TE×TE)} (h:PPs X pos keys values trs) (hall:keys.all (·.isSome)=true) (hl:keys.length=values.length) (h0:keys≠[])
    (h15:keys.length<=15):PE X (.Dict keys values pos) (tDisp trs):=by
  intro pins s σ H Q I q
  have hn:=I.hok.fresh (Nat.le_refl s.heap.objs.size)
  have I1:=I.laid (a:=s.heap.objs.size) (o:=.dK []) (h':=s.heap.push { cls:=.type "dict", data:=.dict #[] }) (t':=s.toks) (fun _ _ q=>Heap.get?_push_of_some _ q) (Nat.le_refl _) (zpe s.heap I.big)
  refine wpAny_Dict_walk (knd:=zbf X.prog X.w) hall hl h0 h15 (thn (h pins _ σ _ _ I1 (q _ hn)) fun ws s2 ⟨ps,H2,I2,rel,e,kvs,ep,lk,q2⟩=>?_)
  subst ep
  obtain ⟨rs,c,rk⟩:=zkg (P:=X.prog) (w:=X.w) rel
  obtain ⟨z,hd,vs0,r0,dd⟩:=dk_of I2.hok e
  cases r0
  refine ⟨rs,c,dd,fun h' dd' hs=>⟨.ref s.heap.objs.size,_,?_,rfl,q2⟩⟩
  have hz:(zgk [] kvs).length<=sizeLine:=by
    have h1:=zgw kvs []
    rw [List.length_nil] at h1
    rw [sizeLine_eq]; omega
  have he:∃ q,h'.get? s.heap.objs.size=some q:=let ⟨q,_,_,hq,_⟩:=dd'; ⟨q,hq⟩
  exact znx I2 (by rw [e]; exact True.intro) hs he (zup hz hd (rk.merge .nil) dd')
def IsD (H:Hp) (a:Addr):Prop:=(∃ kvs,Rd H a (.dK kvs))\/∃ kvs,Rd H a (.dT kvs)
theorem zsa {X:Cx} {pins:List (Addr×Obj)} {σ:St} {H:Hp} {s:Shared} {a:Addr} (I:Inv X pins σ H s) (d:IsD H a) :
    s.TypeIs (.ref a) "dict" /\ (∀ b,Value.ref a = .ref b->∃ ob,s.heap.get? b=some ob/\ob.dict=none)/\(a == sysModules)=false:=by
  rcases d with ⟨kvs,e⟩ | ⟨kvs,e⟩
  · obtain ⟨_,hd,vs,_,dd⟩:=dk_rd I.hok e
    refine ⟨dd.typeIs,fun b q=>?_,hd⟩
    cases q
    obtain ⟨ob,_,_,h1,h2,_⟩:=dd
    exact ⟨ob,h1,h2.2.1⟩
  · obtain ⟨_,hd,xs,_,dd⟩:=dt_rd I.hok e
    refine ⟨dd.typeIs,fun b q=>?_,hd⟩
    cases q
    obtain ⟨ob,_,_,h1,h2,_⟩:=dd
    exact ⟨ob,h1,h2.2.1⟩
section
variable {X:Cx} {pins:List (Addr×Obj)} {σ:St} {H:Hp} {s:Shared} {a:Addr} {y d:V} {u r:Value} {o:Option V} {A:Around} {E:Value->Shared->Prop}
end
def tDGet1 (td ty:TE):TE:=fun σ H Q=>td σ H fun x H1=>∃ a,x = .ref a/\IsD H1 a/\ty σ H1 fun y H2=>∃ o,DGet H2 a y o/\Q (o.getD .non) H2
def tDGet2 (td ty tx:TE):TE:=fun σ H Q=>td σ H fun x H1=>∃ a,x = .ref a/\IsD H1 a/\ty σ H1 fun y H2=>tx σ H2 fun z H3=>∃ o,DGet H3 a y o/\Q (o.getD z) H3
def tDPop1 (td ty:TE):TE:=fun σ H Q=>td σ H fun x H1=>∃ a,x = .ref a/\IsD H1 a/\ty σ H1 fun y H2=>∃ kvs k v,H2 a=some (.dK kvs)/\y=kV k/\valV kvs k=some v/\Q v (upd H2 a (.dK (dropK kvs k)))
section
variable {X:Cx} {o e f:Expr} {apos cpos:Pos} {td ty tx:TE}
end
section
variable {X:Cx} {pins:List (Addr×Obj)} {σ:St} {H:Hp} {s:Shared} {a:Addr} {kvs:List (Key×V)} {A:Around} {E:Value->Shared->Prop}
end
section
variable {X:Cx} {pins:List (Addr×Obj)} {σ:St} {H:Hp} {s:Shared} {a:Addr} {y:V} {u:Value} {A:Around} {E:Value->Shared->Prop}
end
end L2
namespace L2
open PySem PySem.Spec PyProof.Rows
section
variable {X:Cx}
end
section
variable {κ:Type} [DecidableEq κ]
end
end L2
namespace L2
open PySem PySem.Spec PyProof.Rows
def tTru (K:PySem.W.Frag) (ta:TE):TT:=fun σ H Q=>ta σ H fun x H1=>∃ k,TruV K x H1 k/\Q k H1
theorem zsb {X:Cx} (K:PySem.W.Frag) (h:X.K=K) {a:Expr} {ta:TE} (ha:PE X a ta) (he:∀ whole,isTrue a X.env whole=(do let v <- whole; standAt a.pos; holding [v] (truthy v)):=by intro _; rfl):PT X a (tTru K ta):=h ▸ zsz ha he
theorem truL {K:PySem.W.Frag} {H:Hp} {p:Addr} {xs:List V} (h:SqL K H p xs):TruV K (.ref p) H (!xs.isEmpty):=.inl ⟨xs,h,rfl⟩
end L2
namespace Sw
abbrev T3:=Rat×Rat×Int
def isHd (m:Rat) (u:T3):Bool:=!decide (m<u.1) && decide (m<u.2.1)
def hds (us:List T3) (m:Rat):List T3:=us.filter (isHd m)
def Grd (D:Int) (q:Rat):Prop:=∃ n:Int,q=(n:Rat) / (D:Rat)
end Sw
namespace L2
open PySem PySem.Spec PyProof.Rows
theorem zsc {c:TT} {tb:TS} {D:Ends} {σ:St} {H:Hp} (W:Nat->St->Hp->Prop) {m0:Nat} (h0:W m0 σ H)
    (hs:∀ m σ H,W m σ H->∃ b:Bool,(∀ Q:Bool->Hp->Prop,Q b H->c σ H Q)/\(b=true->tb { D with nx:=fun σ' H'=>∃ m',m' < m/\W m' σ' H',ct:=fun σ' H'=>∃ m',m' < m/\W m' σ' H',bk:=D.nx } σ H)/\(b=false->D.nx σ H)):zqu c tb D σ H:=by
  refine ⟨W,⟨_,h0⟩,fun m σ H p=>?_⟩
  obtain ⟨b,hc,h1,h2⟩:=hs m σ H p
  refine hc _ ?_
  cases b with
  | true=>exact ⟨_,fun σ' H' z=>z,h1 rfl⟩
  | false=>exact h2 rfl
theorem ziu {α β:Type} {F:α->β->Prop} {a:α} {b:β} (h:F a b):∀ {l₁:List α} {l₂:List β},Paired F l₁ l₂->Paired F (l₁++[a]) (l₂++[b])
 | _,_,Paired.nil=>.cons h .nil
 | _,_,Paired.cons x y=>.cons x (ziu h y)
theorem zgc {α β:Type} {F:α->β->Prop}:∀ {l₁:List α} {l₂:List β} {i:Nat} {a:α},Paired F l₁ l₂->l₁[i]? = some a->∃ b,l₂[i]? = some b/\F a b
 | _,_,_,_,Paired.nil,e=>by simp at e
 | _,_,0,_,Paired.cons x _,e=>by simp at e; subst e; exact ⟨_,rfl,x⟩
 | _,_,i+1,_,Paired.cons _ y,e=>by
  obtain ⟨b,h1,h2⟩:=zgc (i:=i) y (by simpa using e)
  exact ⟨b,by simpa using h1,h2⟩
theorem take_succ_of {α:Type} {l:List α} {i:Nat} {x:α} (h:l[i]? = some x):l.take (i+1)=l.take i++[x]:=by
 rw [List.take_add_one,h]; rfl
end L2
namespace L2
open PySem PySem.Spec PyProof.Rows
end L2
namespace Sw
open L2
end Sw
namespace L2
open PySem PySem.Spec PyProof.Rows
end L2
namespace L2
open PySem PySem.Spec PyProof.Rows
def Ite1 (K:PySem.W.Frag) (a:Addr):It :=
  ⟨fun i H=>∃ xs x,SqL K H a xs/\xs[i]? = some x,
   fun i H y H'=>∃ p x,y = .ref p/\H p=none/\(∀ xs,SqL K H a xs->xs[i]? = some x)/\H'=upd H p (.tup [.int ((i+1:Nat):Int),x]),
   fun i H=>∃ xs,SqL K H a xs/\xs.length=i⟩
section
variable {X:Cx}
def iEnum1 (K:PySem.W.Frag) (ta:TA):TI:=fun σ H R=>ta σ H fun vs H1=>∃ a,vs = [.ref a]/\(∃ xs,SqL K H1 a xs)/\R (Ite1 K a) H1
end
end L2
namespace L2
open PySem PySem.Spec PyProof.Rows
section
variable {X:Cx}
def Itv (K:PySem.W.Frag) (a:Addr) (xs:List V):It :=
 ⟨fun i H=>SqL K H a xs/\i<xs.length,fun i H x H'=>H'=H/\xs.reverse[i]? = some x,fun i H=>SqL K H a xs/\xs.length=i⟩
def iRev (K:PySem.W.Frag) (ta:TA):TI:=fun σ H R=>ta σ H fun vs H1=>∃ a xs,vs = [.ref a]/\SqL K H1 a xs/\R (Itv K a xs) H1
end
end L2
namespace L2
end L2
namespace L2
open PySem PySem.Spec PyProof.Rows
def DSd (H:Hp) (a:Addr) (y d:V) (v:V) (H':Hp):Prop:=∃ kvs k,H a=some (.dK kvs)/\y=kV k/\kvs.length<sizeLine/\((valV kvs k=some v/\H'=H)\/(valV kvs k=none/\v=d/\H'=upd H a (.dK (putK kvs k d))))
section
variable {X:Cx} {pins:List (Addr×Obj)} {σ:St} {H H':Hp} {s:Shared} {a:Addr} {y d v:V} {u r:Value} {A:Around} {E:Value->Shared->Prop}
end
def tDSd (td ty tx:TE):TE:=fun σ H Q=>td σ H fun x H1=>∃ a,x = .ref a/\IsD H1 a/\ty σ H1 fun y H2=>tx σ H2 fun z H3=>∃ v H4,DSd H3 a y z v H4/\Q v H4
section
variable {X:Cx} {o e f:Expr} {td ty tx:TE} {apos cpos:Pos}
end
end L2
namespace Sw
open L2
def ov (low high:Rat) (u:T3):Rat:=if u.2.1<=low then 0 else if high<=u.1 then 0 else (if u.2.1<=high then u.2.1 else high)-(if low<=u.1 then u.1 else low)
end Sw
namespace Sw
open L2
end Sw
namespace Sw
open L2
end Sw
namespace L2
open PySem PySem.Spec PyProof.Rows
section
variable {X:Cx}
end
abbrev D2:=Int×Int
def d2 (g:D2):List V:=[.int g.1,.int g.2]
abbrev Duos (H:Hp):List Addr->List D2->Prop:=Paired fun p g=>H p=some (.tup (d2 g))
theorem Duos.keep {H H':Hp} {ps:List Addr} {gs:List D2} (h:Duos H ps gs) (e:∀ p xs,H p=some (.tup xs)->H' p=some (.tup xs)):Duos H' ps gs:=Paired.mapP h fun _ _ q=>e _ _ q
structure Gos (H:Hp) (l:Addr) (ps:List Addr) (gs:List D2):Prop where
 hl:H l=some (.lst (ps.map V.ref))
 r:Duos H ps gs
end L2
namespace Sw
open L2
end Sw
namespace L2
open PySem PySem.Spec PyProof.Rows
end L2
namespace L2
open PySem PySem.Spec PyProof.Rows
section
variable {X:Cx}
theorem zvu {i0:Nat} {y:Str} {py spos:Pos} {elt target iter:Expr} {ifs:List Expr} {scope:Scope} {pos:Pos} {cl:List (Str×Addr)} {ts:List Str} {fr:List (Str×Nat)} {wi:TI} {g:TG} {tc:TT} {te:TE} (hcalm:X.calm=true)
    (hclos:closureFor scope X.env=pure cl) (hcell:∀ y∈scope.names,y.2≠.cell) (hkind:scope.kind = .function) (hnames:∀ y∈scope.names,y.2 = .local->scope.names.lookup y.1=some .local)
    (hcl:∀ x c,cl.lookup x=some c->X.env.cells.lookup x=some c)
    (hhas:∀ x,((relabel scope X.env).names.lookup x=some .cell\/(relabel scope X.env).names.lookup x=some .free)->∃ c,cl.lookup x=some c) (hfr:FrOk X (relabel scope X.env) fr)
    (hi:PI X target iter wi) (hg:∀ fp s H,PG (zcu X scope cl (ts++fr.map (·.1)) fp s H) target g) (hc:∀ fp s H,PIfs (zcu X scope cl (ts++fr.map (·.1)) fp s H) ifs tc)
    (he:∀ fp s H,PE (zcu X scope cl (ts++fr.map (·.1)) fp s H) elt te) (hsw:swapsWith (.ListComp elt [⟨target,iter,ifs,0⟩] scope pos) (some (.Name y py)) spos.line X.env=pure true) (hN:X.N.Nodup) (hiy:X.N[i0]? = some y) (hy:Loc X.env.scope y)
    (hs:∀ x,foldedSetIterable iter X.env x=pure x:=by intro _; rfl) (hf:X.fn y=true\/X.env.scope.names.lookup y=some .local:=by first | exact .inl rfl | exact .inr rfl | assumption) :
    PS X (.Assign [.Name y py] (.ListComp elt [⟨target,iter,ifs,0⟩] scope pos) spos) (tAsg (tComp ts.length fr wi g tc te) (gName i0)):=by
  intro pins s σ H D I h
  have h:tComp ts.length fr wi g tc te σ H (fun x H1=>D.nx (σ.set i0 (some x)) H1):=h
  rw [exec_Assign_Name_used _ _ _ _ hsw]
  refine wpAny_bind (wpAny_standAt (wpAny_bind ?_))
  show wpAny _ _ (do let _ <- comprehension (.ListComp elt [⟨target,iter,ifs,0⟩] scope pos) scope X.env _ (newList []) false (eval iter X.env) (some (assign (.Name y py) X.env))) _ _ s
  refine wpAny_bind (wpAny_mono (wpAny_comprehension_free (use:=some (assign (.Name y py) X.env)) (Q:=fun _ s'=>SP X pins D .next s') rfl hs hclos hkind hnames (thn (hi pins s σ H _ I h) fun xv s1 h1=>thn h1 fun itv s2 h2=>?_)) (fun _ s' hq=>wpAny_pure (wpAny_pure hq)) fun _ _ e=>e)
  obtain ⟨it,fp,tn,J,H2,rfl,I2,T,st2,f2,hR⟩:=h2
  have D0:H2 s2.heap.objs.size=none:=I2.hok.fresh (Nat.le_refl _)
  obtain ⟨W,⟨m0,w0⟩,turn⟩:=hR s2.heap.objs.size D0
  refine wpAny_newObj_type (wpAny_newFunctionEnv hcell (by intro y hy; simp at hy) (fun h₁ hns₁ hsb₁=>?_) hkind)
  dsimp only at hns₁ hsb₁ ⊢
  have I3:Inv X pins σ (upd H2 s2.heap.objs.size (.lst [])) { s2 with heap:=s2.heap.push { cls:=.type "list", dict:=none,data:=.seq ([]:List Value).toArray } } :=
    I2.laid (t':=s2.toks) (fun _ _ q=>Heap.get?_push_of_some _ q) (Nat.le_refl _) ⟨Nat.zero_le _,[],0,.nil,Heap.get?_push_size _ rfl⟩
  have kp3:∀ b o,s2.heap.get? b=some o->(s2.heap.push { cls:=.type "list", dict:=none,data:=.seq ([]:List Value).toArray }).get? b=some o:=fun b o q=>Heap.get?_push_of_some _ q
  have sz3:(s2.heap.push { cls:=.type "list", dict:=none,data:=.seq ([]:List Value).toArray }).objs.size=s2.heap.objs.size+1:=Heap.size_push ..
  generalize s2.heap.push { cls:=.type "list", dict:=none,data:=.seq ([]:List Value).toArray } = hp3 at hns₁ hsb₁ I3 kp3 sz3 ⊢
  have kp:∀ b o,hp3.get? b=some o->h₁.get? b=some o:=fun b o e=>hsb₁.extBut b o (Nat.ne_of_lt (Heap.lt_size e)) (Heap.get?_push_of_some _ e)
  have flt:∀ b∈fp,b<s2.heap.objs.size:=fun b hb=>by
    obtain ⟨o,e,_⟩:=T.obj _ _ st2 b hb
    exact Heap.lt_size e
  have fr3:∀ b∈fp,(upd H2 s2.heap.objs.size (.lst [])) b=none:=fun b hb=>by rw [zai (Nat.ne_of_lt (flt b hb))]; exact (f2 b hb).1
  have f3:∀ b∈fp,FpOk X pins (upd H2 s2.heap.objs.size (.lst [])) b/\b<hp3.objs.size:=fun b hb=>⟨⟨fr3 b hb,(f2 b hb).2⟩,by rw [sz3]; exact Nat.lt_succ_of_lt (flt b hb)⟩
  have I4:=zou (ts:=ts) (t':=s2.toks+([]:List (Str×Value)).length) I3 hkind hcl hhas hfr f3 hns₁ kp
  have st4:tn 0 h₁:=T.keep _ _ _ st2 fun b hb o e=>kp b o (kp3 b o e)
  have loop:codeAny (model X.prog X.w) X.A (.compLoop (.ListComp elt [⟨target,iter,ifs,0⟩] scope pos) 0 (.ref it) (.ref s2.heap.objs.size) (compEnvC scope cl hp3.objs.size X.env))
      (compPost (model X.prog X.w) X.A X.xe (some (assign (.Name y py) X.env)) (fun _ s'=>SP X pins D .next s') (.ref s2.heap.objs.size) hp3.objs.size) { s2 with heap:=h₁,toks:=s2.toks+([]:List (Str×Value)).length }:=by
    refine zfa (fun n s'=>∃ i τ H',Inv (zcu X scope cl (ts++fr.map (·.1)) fp { s2 with heap:=hp3 } (upd H2 s2.heap.objs.size (.lst []))) [] τ H' s'/\tn i s'.heap/\(∀ b∈fp,H' b=none)/\W i n τ H') ?_ m0 ⟨0,_,_,I4,st4,fr3,w0⟩
    rintro n s5 ⟨i,τ,H5,I5,st5,fr5,w5⟩
    have stat:∀ {H':Hp},(∀ b∈fp,H' b=none)->∀ b∈fp,FpOk (zcu X scope cl (ts++fr.map (·.1)) fp { s2 with heap:=hp3 } (upd H2 s2.heap.objs.size (.lst []))) [] H' b :=
      fun hn b hb=>⟨hn b hb,(I5.ok.exf b hb).1,I5.ok.exfs b hb,.inl hb,(I5.ok.exf b hb).2,fun p hp=>absurd (show p∈([]:List (Addr×Obj)) from hp) (by simp)⟩
    rcases turn i n τ H5 w5 with ⟨stop,qn⟩ | ⟨go,Nn,hN,step⟩
    · refine thn (T.done (zcu X scope cl (ts++fr.map (·.1)) fp { s2 with heap:=hp3 } (upd H2 s2.heap.objs.size (.lst []))) rfl rfl rfl hcalm i [] s5 τ H5 _ I5 (stat fr5) st5 stop) fun r s6 ⟨hr,I6⟩=>?_
      subst hr
      have neC:∀ b o,hp3.get? b=some o->b≠hp3.objs.size:=fun b o e=>Nat.ne_of_lt (Heap.lt_size e)
      have I7:Inv X pins σ H5 s6:=by
        refine I3.call' (s':=s6) (ch:=fp) I6.os ⟨fun b o e n hb hx=>I6.base.keep b o e n hb hx,fun b o e n hb hx=>I6.base.slot b o e n hb hx,I6.base.free,fun b o e hx=>I6.base.there b o e hx,I6.base.tups,I6.base.frzs,I6.base.tbls⟩ I6.hok I6.bare (fun b hb=>?_)
        exact ⟨(f2 b hb).2.2.2.1,(f2 b hb).2.1,(f2 b hb).2.2.2.2.1,(f2 b hb).2.2.2.2.2⟩
      have lC:X.env.locals≠hp3.objs.size:=by
        obtain ⟨_,⟨o,_,_,ho,_⟩,_⟩:=I3.loc
        exact neC _ o ho
      have cC:∀ x c,X.env.cells.lookup x=some c->c≠hp3.objs.size:=fun x c e=>by
        obtain ⟨v,o,ho,_⟩:=I3.cell x c e
        exact neC _ o ho
      have fC:H5 hp3.objs.size=none:=I6.free
      obtain ⟨m,hn,_⟩:=I6.loc
      show wpAny _ _ (assign (.Name y py) X.env (.ref s2.heap.objs.size)) _ _ _
      refine wpAny_assign_Name (zlp I7 hN hiy hy (v:=.ref s2.heap.objs.size) rfl (fun s8 I8 hsb=>?_) hf)
      obtain ⟨al,hs8,hal⟩:=hsb
      have alC:hp3.objs.size≠al:=by
        rcases hal with z | z
        · rw [z]; exact Ne.symm lC
        · exact Ne.symm (cC _ _ z)
      have hs8:Heap.SameBut al s6.heap s8.heap:=hs8
      have hnC:s6.heap.Ns hp3.objs.size m:=hn
      refine ⟨m,hnC.sameBut hs8 alC,fun h' hs'=>⟨σ.set i0 (some (.ref s2.heap.objs.size)),H5,?_,qn⟩⟩
      have hs':Heap.SameBut hp3.objs.size s8.heap h':=hs'
      refine I8.call' (s':={ s8 with heap:=h' }) (ch:=[hp3.objs.size]) rfl ⟨fun b o e n hb hx=>?_,fun b o e n hb hx=>?_,fun b o e n hx=>n,fun b o e hx=>?_,fun _ _ q=>q,fun _ _ _ q=>q,fun b ps q=>⟨#[],by rw [q]; simp⟩⟩ (fun b ob e=>?_) I8.bare (fun b hb=>?_)
      · exact (hs'.2 b (fun z=>hx (by simp [z]))).trans e
      · exact ⟨o.slots,(hs'.2 b (fun z=>hx (by simp [z]))).trans e⟩
      · exact ⟨o,(hs'.2 b (fun z=>hx (by simp [z]))).trans e⟩
      · refine (I8.hok b ob e).stay (fun c v hc q=>(hs'.2 c ?_).trans q) (fun _ q=>q) fun _ _ q=>q
        intro z
        rcases hc with w | w
        · rw [<- w,z,fC] at e; cases e
        · rw [z,fC] at w; cases w
      · have z:b=hp3.objs.size:=by simpa using hb
        subst z
        refine ⟨.inr (Nat.le_trans (Nat.le_trans I2.sz (by rw [sz3]; exact Nat.le_succ _)) (Nat.le_refl _)),Ne.symm lC,cC,fun p hp e=>?_⟩
        obtain ⟨q1,_⟩:=I3.pin p hp
        exact neC _ _ q1 e
    · refine thn (T.item (zcu X scope cl (ts++fr.map (·.1)) fp { s2 with heap:=hp3 } (upd H2 s2.heap.objs.size (.lst []))) rfl rfl rfl hcalm i [] s5 τ H5 _ I5 (stat fr5) st5 go) fun r s6 ⟨u,hr,h6⟩=>?_
      subst hr
      refine thn h6 fun _ s7 ⟨x,H7,I7,r7,y7,st7,fr7⟩=>?_
      have I7':=I7.pinned (stat fr7) (T.obj _ _ st7)
      refine wpAny_mono (hg fp _ _ _ s7 τ H7 x u _ I7' r7 (step x H7 y7)) (fun _ s8 ⟨τ8,H8,I8,q8⟩=>?_) fun _ _ z=>False.elim z
      have again:∀ {τ9:St} {H9:Hp} {s9:Shared},Inv (zcu X scope cl (ts++fr.map (·.1)) fp { s2 with heap:=hp3 } (upd H2 s2.heap.objs.size (.lst []))) ([]++zka fp s7.heap) τ9 H9 s9->Nn τ9 H9 ->
          ∃ m,m<n/\∃ i τ H',Inv (zcu X scope cl (ts++fr.map (·.1)) fp { s2 with heap:=hp3 } (upd H2 s2.heap.objs.size (.lst []))) [] τ H' s9/\tn i s9.heap/\(∀ b∈fp,H' b=none)/\W i m τ H':=fun {τ9 H9 s9} I9 n9=>by
        obtain ⟨m',hm,w9⟩:=hN τ9 H9 n9
        refine ⟨m',hm,i+1,τ9,H9,I9.unpinned,T.keep _ _ _ st7 fun b hb o e=>(I9.pin (b,o) (List.mem_append_right _ (List.mem_append_right _ (zez hb e)))).1,fun b hb=>?_,w9⟩
        obtain ⟨o,e,d⟩:=T.obj _ _ st7 b hb
        exact (I9.pin (b,o) (List.mem_append_right _ (List.mem_append_right _ (zez hb e)))).2.1
      refine wpAny_mono (hc fp _ _ _ s8 τ8 H8 _ I8 q8) (fun ok s9 ⟨H9,I9,q9⟩=>?_) fun _ _ z=>False.elim z
      cases ok with
      | false=>exact again I9 q9
      | true =>
        refine wpAny_mono (he fp _ _ _ s9 τ8 H9 _ I9 q9) (fun y s10 ⟨v,H10,I10,rv,ys,hD,hl,qN⟩=>?_) fun _ _ z=>False.elim z
        refine wpAny_mono (zfu (X:=zcu X scope cl (ts++fr.map (·.1)) fp { s2 with heap:=hp3 } (upd H2 s2.heap.objs.size (.lst []))) _ s10 τ8 H10 (.ref s2.heap.objs.size) [v] (.ref s2.heap.objs.size) [y] (fun _ H=>Nn τ8 H) I10 rfl (.cons rv .nil) ⟨_,ys,v,rfl,rfl,hD,hl,qN⟩) (fun _ s11 ⟨_,H11,I11,_,q11⟩=>again I11 q11) fun _ _ z=>False.elim z
  exact codeAny_compStart_list loop (T.self X.A 0 _ _ _ st4 loop)
theorem zvv {i0:Nat} {y:Str} {py spos:Pos} {elt target iter:Expr} {ifs:List Expr} {scope:Scope} {pos:Pos} {cl:List (Str×Addr)} (ts:List Str) (fr:List (Str×Nat)) {wi:TI} {g:TG} {tc:TT} {te:TE} (hcalm:X.calm=true)
    (hclos:closureFor scope X.env=pure cl) (hcell:∀ y∈scope.names,y.2≠.cell) (hkind:scope.kind = .function) (hnames:∀ y∈scope.names,y.2 = .local->scope.names.lookup y.1=some .local)
    (hcl:ClOk X.env cl) (hhas:clAll (relabel scope X.env).names cl=true) (hfr:FrOk X (relabel scope X.env) fr)
    (hi:PI X target iter wi) (hg:∀ fp s H,PG (zcu X scope cl (ts++fr.map (·.1)) fp s H) target g) (hc:∀ fp s H,PIfs (zcu X scope cl (ts++fr.map (·.1)) fp s H) ifs tc)
    (he:∀ fp s H,PE (zcu X scope cl (ts++fr.map (·.1)) fp s H) elt te)
    (hsw:swapsWith (.ListComp elt [⟨target,iter,ifs,0⟩] scope pos) (some (.Name y py)) spos.line X.env=pure true) (hN:X.N.Nodup) (hiy:X.N[i0]? = some y) (hy:Loc X.env.scope y)
    (hs:∀ x,foldedSetIterable iter X.env x=pure x:=by intro _; rfl) (hf:X.fn y=true\/X.env.scope.names.lookup y=some .local:=by first | exact .inl rfl | exact .inr rfl | assumption) :
    PS X (.Assign [.Name y py] (.ListComp elt [⟨target,iter,ifs,0⟩] scope pos) spos) (tAsg (tComp ts.length fr wi g tc te) (gName i0)) :=
  zvu hcalm hclos hcell hkind hnames hcl.get (fun x q=>zmj hhas x q) hfr hi hg hc he hsw hN hiy hy hs hf
end
end L2
namespace L2
open PySem PySem.Spec PyProof.Rows
theorem kV_of {P:Program} {w:World} {k:Key} {u:Value} (h:(zbf P w).is k u=true):RelV (kV k) u:=by
 rcases zco h with ⟨i,t,rfl,rfl⟩ | ⟨x,t,rfl,rfl⟩
 ·exact ⟨t,rfl⟩
 ·exact ⟨t,rfl⟩
theorem zmr {P:Program} {w:World}:∀ {kvs:List (Key×V)} {vs:List (Key×Value)} {us:List Value},KV kvs vs->us.length=vs.length->(∀ (j:Nat) (v:Value),us[j]? = some v->∃ k x,vs[j]? = some (k,x)/\(zbf P w).is k v=true)->Vals (kvs.map fun kv=>kV kv.1) us
 | _,_,[],Paired.nil,_,_=>.nil
 | _,_,_ :: _,Paired.nil,e,_=>by cases e
 | _,_,[],Paired.cons _ _,e,_=>by cases e
 | _,_,u :: us,Paired.cons (a:=p) (b:=q) h t,e,hj=>by
  obtain ⟨k,x,h1,h2⟩:=hj 0 u rfl
  have h1:q=(k,x):=by simpa using h1
  subst h1
  have e1:p.1=k:=h.1
  refine .cons ?_ (zmr t (by simpa using e) fun j v hv=>hj (j+1) v (by simpa using hv))
  show RelV (kV p.1) u
  rw [e1]
  exact kV_of h2
def rLstD:List V->Hp->VK->Prop:=fun xs H Q=>∃ a kvs,xs = [.ref a]/\H a=some (.dK kvs)/\∀ l,H l=none->Q (.ref l) (upd H l (.lst (kvs.map fun kv=>kV kv.1)))
section
variable {X:Cx}
theorem zkh (hc:X.calm=true):CallR X (.type "list") rLstD:=by
 intro pins s σ H xs us Q I r h
 obtain ⟨a,kvs,rfl,ha,q⟩:=h
 obtain ⟨u,rfl,ru⟩:=r.one
 cases ru
 obtain ⟨z,hd,vs,rel,o,es,ep,d1⟩:=dk_of I.hok ha
 refine PySem.W.kdl_call (PySem.W.kdl_dict (knd:=zbf X.prog X.w) (kvs:=vs) (ep:=ep) hd) (I.ok.hd hc) ⟨o,es,d1⟩ (by rw [<- rel.length]; exact z) fun h' tk acc c hk hD it=>?_
 have hv:Vals (kvs.map fun kv=>kV kv.1) acc.toList:=zmr rel (by rw [Array.length_toList]; exact it.1) fun j v e=>it.2 j v (by rw [<- Array.getElem?_toList]; exact e)
 have new:ObjOk X.prog X.w (upd H s.heap.objs.size (.lst (kvs.map fun kv=>kV kv.1))) h' s.heap.objs.size (.lst (kvs.map fun kv=>kV kv.1)):=⟨by rw [List.length_map]; exact z,acc.toList,c,hv,by rw [Array.toArray_toList]; exact hD⟩
 exact ⟨.ref s.heap.objs.size,_,I.laid hk (Nat.le_refl _) new,rfl,q _ I.fresh⟩
end
end L2
namespace L2
open PySem PySem.Spec PyProof.Rows
section
variable {X:Cx} {pins:List (Addr×Obj)} {σ:St} {H:Hp} {s:Shared} {a:Addr} {kvs:List (Key×V)} {o:Obj}
theorem Inv.frozen (I:Inv X pins σ H s) (h:H a=some (.dK kvs)) (ho:s.heap.get? a=some o):Inv X pins σ (upd H a (.frz o (.dK kvs))) s:=by
 have ne:∀ b,H b=none->b≠a:=fun b n z=>by rw [z,h] at n; cases n
 have nt:∀ b u,H b=some u->(∀ k,u≠.dK k)->b≠a:=fun b u e n z=>by rw [z,h] at e; cases e; exact n _ rfl
 have up:∀ b u,H b=some u->(∀ k,u≠.dK k)->upd H a (.frz o (.dK kvs)) b=some u:=fun b u e n=>by rw [zai (nt b u e n)]; exact e
 have hok:HOk X.prog X.w (upd H a (.frz o (.dK kvs))) s.heap:=fun b ob e=>by
  by_cases hb:b=a
  ·subst hb
   rw [zac] at e
   cases e
   exact ⟨ho,(I.hok b _ h).stay (fun _ _ _ q=>q) (fun c q=>up c _ q (by intro k z; cases z)) fun c xs q=>up c _ q (by intro k z; cases z)⟩
  ·rw [zai hb] at e
   exact (I.hok b _ e).stay (fun _ _ _ q=>q) (fun c q=>up c _ q (by intro k z; cases z)) fun c xs q=>up c _ q (by intro k z; cases z)
 exact I.step (g':=s.gens) (d':=s.drawn) (t':=s.toks) (ch:=[]) (fun _ z=>nomatch z) (fun b o' _ _ _ e _=>e) (fun b o' _ _ _ e _=>⟨o'.slots,e⟩) (fun b o' _ _ n=>by rw [zai (ne b n)]; exact n) (fun b o' _ e=>⟨o',e⟩)
  (fun b xs q=>up b _ q (by intro k z; cases z)) (fun b o' u q=>up b _ q (by intro k z; cases z)) (fun b ps q=>⟨#[],by rw [up b _ q (by intro k z; cases z)]; simp⟩) (fun m q=>q) hok I.bare
theorem Inv.thawed (I:Inv X pins σ H s) (h:H a=some (.frz o (.dK kvs))) (n0:∀ o u,X.H₀ a≠some (.frz o u)):Inv X pins σ (upd H a (.dK kvs)) s:=by
 have ne:∀ b,H b=none->b≠a:=fun b n z=>by rw [z,h] at n; cases n
 have un:∀ b,H b=none->upd H a (.dK kvs) b=none:=fun b n=>by rw [zai (ne b n)]; exact n
 have nt:∀ b u,H b=some u->(∀ k v,u≠.frz k v)->upd H a (.dK kvs) b=some u:=fun b u e n=>by
  have:b≠a:=fun z=>by rw [z,h] at e; cases e; exact n _ _ rfl
  rw [zai this]; exact e
 have hok:HOk X.prog X.w (upd H a (.dK kvs)) s.heap:=fun b ob e=>by
  by_cases hb:b=a
  ·subst hb
   rw [zac] at e
   cases e
   exact (I.hok b _ h).2.stay (fun _ _ _ q=>q) (fun c q=>nt c _ q (by intro k v z; cases z)) fun c xs q=>nt c _ q (by intro k v z; cases z)
  ·rw [zai hb] at e
   exact (I.hok b _ e).stay (fun _ _ _ q=>q) (fun c q=>nt c _ q (by intro k v z; cases z)) fun c xs q=>nt c _ q (by intro k v z; cases z)
 refine ⟨I.ok,I.os,I.bare,⟨I.base.keep,I.base.slot,fun b o' e n hx=>un b (I.base.free b o' e n hx),I.base.there,fun b xs q=>nt b _ (I.base.tups b xs q) (by intro k v z; cases z),fun b o' u q=>?_,fun b ps q=>?_⟩,I.loc,I.cell,un _ I.free,fun x c e=>un _ (I.freeC x c e),fun p hp=>?_,hok,I.len⟩
 ·have hb:b≠a:=fun z=>n0 o' u (by rw [<- z]; exact q)
  rw [zai hb]
  exact I.base.frzs b o' u q
 ·obtain ⟨m,e⟩:=I.base.tbls b ps q
  exact ⟨m,nt b _ e (by intro k v z; cases z)⟩
 ·obtain ⟨e,n,r⟩:=I.pin p hp
  exact ⟨e,un _ n,r⟩
end
section
variable {X:Cx} {tg:Expr}
end
end L2
namespace L2
open PySem PySem.Spec PyProof.Rows
structure ClsFn (K:PySem.W.Frag) (C:Addr) (m:Str) (f:Addr):Prop where
 mc:∃ mc,PySem.W.readsIn K C mc=true/\PySem.W.findCls K (.ref C) mc m=some (.val (.ref f))
 ga:PySem.W.specialIn K (.ref C) "__getattribute__" = some (some (.builtin "type.__getattribute__"))
 kp:PySem.W.keepIn K (.ref f)=true
structure SrcU (K:PySem.W.Frag) (C:Addr) (m qual:Str) (st:Stmt) (ps:List Str):Prop where
 ex:∃ (f:Addr) (fd:FuncData),FunE K m qual st f fd/\ClsFn K C m f/\BindsV K fd ps []
structure UpD (P:Program) (w:World) (K:PySem.W.Frag) (mg:Str->Option Value) (base:Heap) (CX:CXT) (k:Nat) (C:Addr) (m:Str) (ps:List Str) (sp:Sp):Prop where
 ex:∃ (f:Addr) (fd:FuncData),FnOk P w K mg base CX k f fd ps sp/\ClsFn K C m f/\BindsV K fd ps []
section
variable {P:Program} {w:World} {K:PySem.W.Frag} {mg:Str->Option Value} {base:Heap} {CX:CXT} {C:Addr} {m qual:Str} {st:Stmt} {N ps:List Str} {k:Nat} {sp:Sp}
theorem SrcU.okN (F:SrcU K C m qual st ps) (S:FnScope N ps (zab st)) (len:∀ vs H Q E,sp vs H Q E->vs.length=ps.length)
    (hbody:∀ (f:Addr) (cdv:Value) (A:Around) (outer:List Env) (s:Shared) (H:Hp) (vs:List V) (Q:VK) (E:XK),Room k (A.deeper (envOfC qual (zab st) s.heap.objs.size f cdv))->sp vs H Q E ->
      ∃ t,PSs (cxOf CX P w K mg base N qual (zab st) f cdv A outer s H E).nox (zaj st) t/\t { nx:=fun _ H'=>Q .non H',rt:=Q } (start N vs) H):UpD P w K mg base CX (k+1) C m ps sp:=by
  obtain ⟨f,fd,F,me,b⟩:=F.ex
  obtain ⟨oc,od,dV,kV,doc,pm,an,cdv,ct,osl,rfl,lk,hcd⟩:=F.ex
  exact ⟨f,_,fn_of lk hcd S len fun A outer s H vs Q E hr hsp=>by
    obtain ⟨t,h,q⟩:=hbody f cdv A outer s H vs Q E hr hsp
    exact ⟨t,h.nox,q⟩,me,b⟩
end
def tClsX (sp:Sp) (Ek:XH) (t:TA):TE:=fun σ H Q=>t σ H fun vs H1=>sp vs H1 Q (fun v d H'=>Ek v d σ H')
section
variable {X:Cx} {CX:CXT} {k:Nat} {C:Addr} {ps:List Str} {sp:Sp} {Ek:XH} {x m:Str} {p pos apos:Pos} {e:Expr} {es:List Expr} {t:TA}
theorem zsd {pl:Sem Bool} (D:UpD X.prog X.w X.K X.mg X.base CX k C m ps sp) (hr:Room k X.A) (hx:zfb CX X Ek) (hg:Gl X x) (hm:X.mg x=some (.ref C)) (ha:PA X (e :: es) t)
    (hdb:(x == ("__debug__" : Str))=false:=by decide) (hst:starEach (e :: es) X.env=(false,eval e X.env) :: starEach es X.env:=by rfl) (hpl:(backTo pos (starEach es X.env)).any (·.1)=false:=by rfl)
    (ht:eval (.Call (.Attribute (.Name x p) m apos) (e :: es) [] pos) X.env=(do
      let ov <- eval (.Name x p) X.env
      standAt apos.atName
      let (f,first) <- holding [ov] (getMethod ov m pl)
      callWith pos f first (backTo pos (starEach (e :: es) X.env)) (backToKw pos (keywordEach [] X.env))):=by rfl) :
    PE X (.Call (.Attribute (.Name x p) m apos) (e :: es) [] pos) (tClsX sp Ek t):=by
  obtain ⟨f,fd,F,cf,hb⟩:=D.ex
  obtain ⟨mc,h1,h2⟩:=cf.mc
  intro pins s σ H Q I h
  refine PySem.W.methodCall_KW (pl:=pl) (zfm I hg hm ?_ hdb) ht
  refine PySem.W.method_cls I.kIn cf.ga (PySem.W.cls_value I.kIn h1 h2 rfl ?_)
  have I1:=I.tok (s.toks+1)
  refine PySem.W.callWith_K (first:=[]) (h₀:=X.base) I.ok.mod.kin cf.kp (thn (ha pos pins _ σ H _ I1 h) fun us s2 ⟨vs,H2,I2,r,q2⟩=>⟨I2.kIn,?_⟩) hst hpl
  exact znv (dvs:=[]) F hr hb hx I2 r (by rw [List.append_nil]; exact q2)
end
end L2
namespace L2
open PySem PySem.Spec PyProof.Rows
section
variable {X:Cx}
theorem ziv (K:PySem.W.Frag) (h:X.K=K):OpR X (compareOp .NotIn) (rIn K true):=h ▸ zmb
end
abbrev Nm:=List (Str×Int)
def kvsOf (nm:Nm):List (Key×V):=nm.map fun x=>((Sum.inr x.1:Key),V.int x.2)
def shOf (nm:Nm) (x:Str):Option Int:=(nm.find? fun p=>decide (p.1=x)).map (·.2)
def putN (nm:Nm) (x:Str) (s:Int):Nm:=nm.map fun p=>if p.1=x then (p.1,s) else p
theorem zgx (nm:Nm):(kvsOf nm).length=nm.length:=List.length_map _
theorem zhq (nm:Nm) (x:Str):valV (kvsOf nm) (Sum.inr x:Key)=(shOf nm x).map V.int:=by
 induction nm with
 | nil=>rfl
 | cons p r ih =>
  unfold valV kvsOf shOf at ih ⊢
  rw [List.map_cons,List.find?_cons,List.find?_cons]
  by_cases h:p.1=x
  ·simp [h]
  ·have h2:¬ (Sum.inr p.1:Key)=Sum.inr x:=fun z=>h (Sum.inr.inj z)
   simp only [decide_eq_false h,decide_eq_false h2]
   exact ih
theorem zpf {nm:Nm} {x:Str} {s:Int} (h:shOf nm x=none):putK (kvsOf nm) (Sum.inr x:Key) (.int s)=kvsOf (nm++[(x,s)]):=by
 unfold putK
 have e:((kvsOf nm).any fun kv=>decide (kv.1=(Sum.inr x:Key)))=false:=by
  rw [zfe,zhq,h]; rfl
 rw [e,if_neg (by decide)]
 unfold kvsOf
 rw [List.map_append]; rfl
theorem zpg {nm:Nm} {x:Str} {s:Int} (h:shOf nm x≠none):putK (kvsOf nm) (Sum.inr x:Key) (.int s)=kvsOf (putN nm x s):=by
 unfold putK
 have e:((kvsOf nm).any fun kv=>decide (kv.1=(Sum.inr x:Key)))=true:=by
  rw [zfe,zhq]
  cases q:shOf nm x with
  | none=>exact absurd q h
  | some v=>rfl
 rw [e,if_pos rfl]
 unfold kvsOf putN
 rw [List.map_map,List.map_map]
 refine List.map_congr_left fun p _=>?_
 by_cases hp:p.1=x
 ·subst hp; simp
 ·have h2:¬ (Sum.inr p.1:Key)=Sum.inr x:=fun z=>hp (Sum.inr.inj z)
  simp [hp]
theorem zgy {nm:Nm} {x y:Str} {s:Int}:shOf (putN nm x s) y=if y=x then (shOf nm y).map fun _=>s else shOf nm y:=by
 induction nm with
 | nil=>unfold shOf putN; simp
 | cons p r ih =>
  unfold shOf putN at ih ⊢
  rw [List.map_cons,List.find?_cons,List.find?_cons]
  by_cases hp:p.1=x
  ·rw [if_pos hp]
   by_cases hy:p.1=y
   ·simp [hy,hp ▸ hy.symm]
   ·simp only [decide_eq_false hy]
    exact ih
  ·rw [if_neg hp]
   by_cases hy:p.1=y
   ·have:¬ y=x:=fun z=>hp (hy.trans z)
    simp [hy,this]
   ·simp only [decide_eq_false hy]
    exact ih
theorem zgz {nm:Nm} {x y:Str} {s:Int} (h:shOf nm x=none):shOf (nm++[(x,s)]) y=if y=x then some s else shOf nm y:=by
 unfold shOf at h ⊢
 rw [List.find?_append]
 by_cases hy:y=x
 ·subst hy
  rw [if_pos rfl]
  cases q:nm.find? fun p=>decide (p.1=y) with
  | none=>simp
  | some v=>rw [q] at h; cases h
 ·rw [if_neg hy]
  have e:([(x,s)]:Nm).find? (fun p=>decide (p.1=y))=none:=by
   have:¬ x=y:=fun z=>hy z.symm
   simp [this]
  rw [e]; simp
theorem ztm {nm:Nm} {x:Str} {s:Int} (h:shOf nm x=some s):(x,s)∈nm:=by
 unfold shOf at h
 cases q:nm.find? fun p=>decide (p.1=x) with
 | none=>rw [q] at h; cases h
 | some v =>
  rw [q] at h
  have e1:v.2=s:=Option.some.inj h
  have e2:v.1=x:=by simpa using List.find?_some q
  have:=List.mem_of_find?_eq_some q
  rw [<- e1,<- e2]; exact this
theorem znz {nm:Nm} {x:Str} {s:Int} (h:(x,s)∈nm):shOf nm x≠none:=by
 unfold shOf
 intro z
 have z:nm.find? (fun p=>decide (p.1=x))=none:=by simpa using z
 have:=List.find?_eq_none.mp z _ h
 simp at this
structure Mb (C:Addr) (H:Hp) (p psh:Addr) (nm:Nm):Prop where
 ex:∃ dx fs,H p=some (.ins C dx fs)/\fs.lookup ("shares" : Str)=some (.ref psh)/\(∀ m:Str,¬ m = "shares" -> fs.lookup m=none)/\fs.length<900
 hs:H psh=some (.dK (kvsOf nm))
theorem Mb.same {C:Addr} {H H':Hp} {p psh:Addr} {nm:Nm} (h:Mb C H p psh nm) (s:Same H H'):Mb C H' p psh nm:=by
 obtain ⟨dx,fs,h1,h2⟩:=h.ex
 exact ⟨⟨dx,fs,s _ _ h1,h2⟩,s _ _ h.hs⟩
theorem Mb.put {C:Addr} {H:Hp} {p psh:Addr} {nm nm':Nm} (h:Mb C H p psh nm):Mb C (upd H psh (.dK (kvsOf nm'))) p psh nm':=by
 obtain ⟨dx,fs,h1,h2⟩:=h.ex
 exact ⟨⟨dx,fs,by rw [zai (ne_of h1 h.hs (by intro z; cases z))]; exact h1,h2⟩,zac⟩
end L2
namespace L2
open PySem PySem.Spec PyProof.Rows
structure RatD (H:Hp) (p:Addr) (f:Str->Option Rat) (n:Nat):Prop where
 ex:∃ kvs,H p=some (.dK kvs)/\(∀ x:Str,(f x=none/\valV kvs (Sum.inr x:Key)=none)\/∃ r q,f x=some r/\valV kvs (Sum.inr x:Key)=some (.ref q)/\H q=some (.tup (fq r)))/\kvs.length<=n
theorem RatD.keep {H H':Hp} {p:Addr} {f:Str->Option Rat} {n:Nat} (h:RatD H p f n) (e:∀ b o,b=p\/(∃ xs,H b=some (.tup xs))->H b=some o->H' b=some o):RatD H' p f n:=by
 obtain ⟨kvs,h1,h2,h3⟩:=h.ex
 refine ⟨kvs,e _ _ (.inl rfl) h1,fun x=>?_,h3⟩
 rcases h2 x with z | ⟨r,q,a,b,c⟩
 ·exact .inl z
 ·exact .inr ⟨r,q,a,b,e _ _ (.inr ⟨_,c⟩) c⟩
theorem RatD.same {H H':Hp} {p:Addr} {f:Str->Option Rat} {n:Nat} (h:RatD H p f n) (s:Same H H'):RatD H' p f n:=h.keep fun b o _ e=>s b o e
def setS (f:Str->Option Rat) (x:Str) (r:Rat):Str->Option Rat:=fun y=>if y=x then some r else f y
theorem RatD.put {H:Hp} {p q:Addr} {f:Str->Option Rat} {n:Nat} {x:Str} {r:Rat} {kvs:List (Key×V)} (h1:H p=some (.dK kvs)) (h2:∀ x:Str,(f x=none/\valV kvs (Sum.inr x:Key)=none)\/∃ r q,f x=some r/\valV kvs (Sum.inr x:Key)=some (.ref q)/\H q=some (.tup (fq r)))
    (h3:(putK kvs (Sum.inr x:Key) (.ref q)).length<=n) (hq:H q=some (.tup (fq r))):RatD (upd H p (.dK (putK kvs (Sum.inr x:Key) (.ref q)))) p (setS f x r) n:=by
  have nt:∀ b xs,H b=some (.tup xs)->upd H p (.dK (putK kvs (Sum.inr x:Key) (.ref q))) b=some (.tup xs):=fun b xs e=>by rw [zai (ne_of e h1 (by intro z; cases z))]; exact e
  refine ⟨_,zac,fun y=>?_,h3⟩
  rw [ztk]
  unfold setS
  by_cases e:y=x
  · subst e
    rw [if_pos rfl,if_pos rfl]
    exact .inr ⟨r,q,rfl,rfl,nt _ _ hq⟩
  · rw [if_neg e,if_neg (fun z=>e (Sum.inr.inj z))]
    rcases h2 y with z | ⟨r',q',a,b,c⟩
    · exact .inl z
    · exact .inr ⟨r',q',a,b,nt _ _ c⟩
structure FS (fs:List (Str×V)) (most:Int) (pm:Addr) (ch:V) (pr pt pg:Addr):Prop where
 mo:fs.lookup ("most" : Str)=some (.int most)
 me:fs.lookup ("members" : Str)=some (.ref pm)
 ch:fs.lookup ("chosen" : Str)=some ch
 re:fs.lookup ("reached" : Str)=some (.ref pr)
 ta:fs.lookup ("tags" : Str)=some (.ref pt)
 gr:fs.lookup ("greatest_steps" : Str)=some (.ref pg)
 no:∀ m:Str,¬ m = "most" -> ¬ m = "members" -> ¬ m = "chosen" -> ¬ m = "reached" -> ¬ m = "tags" -> ¬ m = "greatest_steps" -> fs.lookup m=none
 len:fs.length<900
theorem zal {fs:List (Str×V)} {f g:Str} {v:V} (h:¬ g=f):(putF f v fs).lookup g=fs.lookup g:=by rw [zbb,if_neg h]
theorem zbw {fs:List (Str×V)} {f:Str} {v:V}:(putF f v fs).lookup f=some v:=by rw [zbb,if_pos rfl]
theorem FS.mk0 (most:Int) (pm:Addr) (ch:V) (pr pt pg:Addr):FS (putF "greatest_steps" (.ref pg) (putF "tags" (.ref pt) (putF "reached" (.ref pr) (putF "chosen" ch (putF "members" (.ref pm) (putF "most" (.int most) [])))))) most pm ch pr pt pg:=by
 refine ⟨?_,?_,?_,?_,?_,?_,fun m h1 h2 h3 h4 h5 h6=>?_,?_⟩
 ·rw [zal (by decide +kernel),zal (by decide +kernel),zal (by decide +kernel),zal (by decide +kernel),zal (by decide +kernel),zbw]
 ·rw [zal (by decide +kernel),zal (by decide +kernel),zal (by decide +kernel),zal (by decide +kernel),zbw]
 ·rw [zal (by decide +kernel),zal (by decide +kernel),zal (by decide +kernel),zbw]
 ·rw [zal (by decide +kernel),zal (by decide +kernel),zbw]
 ·rw [zal (by decide +kernel),zbw]
 ·rw [zbw]
 ·rw [zal h6,zal h5,zal h4,zal h3,zal h2,zal h1]; rfl
 ·have a1:=zan (fs:=[]) (f := "most") (v:=.int most)
  have a2:=zan (fs:=putF "most" (.int most) []) (f := "members") (v:=.ref pm)
  have a3:=zan (fs:=putF "members" (.ref pm) (putF "most" (.int most) [])) (f := "chosen") (v:=ch)
  have a4:=zan (fs:=putF "chosen" ch (putF "members" (.ref pm) (putF "most" (.int most) []))) (f := "reached") (v:=.ref pr)
  have a5:=zan (fs:=putF "reached" (.ref pr) (putF "chosen" ch (putF "members" (.ref pm) (putF "most" (.int most) [])))) (f := "tags") (v:=.ref pt)
  have a6:=zan (fs:=putF "tags" (.ref pt) (putF "reached" (.ref pr) (putF "chosen" ch (putF "members" (.ref pm) (putF "most" (.int most) []))))) (f := "greatest_steps") (v:=.ref pg)
  simp only [List.length_nil] at a1
  omega
structure At5 where
 p:Addr
 pm:Addr
 ps:Addr
 pt:Addr
 pg:Addr
structure Sx (C Cm:Addr) (H:Hp) (a:At5) (most:Int) (nm:Nm) (tg gs:Str->Option Rat) (ck:Rat) (ch:V) (N:Nat):Prop where
 ex:∃ dx fs pr,H a.p=some (.ins C dx fs)/\FS fs most a.pm ch pr a.pt a.pg/\H pr=some (.tup (fq ck))
 mb:Mb Cm H a.pm a.ps nm
 dt:RatD H a.pt tg N
 dg:RatD H a.pg gs N
 nl:nm.length<=N
 n1:a.pt≠a.pg
 n2:a.pt≠a.ps
 n3:a.pg≠a.ps
 n4:a.p≠a.pm
theorem Sx.same {C Cm:Addr} {H H':Hp} {a:At5} {most:Int} {nm:Nm} {tg gs:Str->Option Rat} {ck:Rat} {ch:V} {N:Nat} (h:Sx C Cm H a most nm tg gs ck ch N) (s:Same H H'):Sx C Cm H' a most nm tg gs ck ch N:=by
 obtain ⟨dx,fs,pr,h1,h2,h3⟩:=h.ex
 exact ⟨⟨dx,fs,pr,s _ _ h1,h2,s _ _ h3⟩,h.mb.same s,h.dt.same s,h.dg.same s,h.nl,h.n1,h.n2,h.n3,h.n4⟩
def Own (a:At5) (H H':Hp):Prop:=∀ b o,b≠a.p->b≠a.ps->b≠a.pt->b≠a.pg->H b=some o->H' b=some o
theorem Same.own {a:At5} {H H':Hp} (s:Same H H'):Own a H H':=fun b o _ _ _ _ e=>s b o e
theorem Own.trans {a:At5} {H H1 H2:Hp} (x:Own a H H1) (y:Own a H1 H2):Own a H H2:=fun b o n1 n2 n3 n4 e=>y b o n1 n2 n3 n4 (x b o n1 n2 n3 n4 e)
theorem RatD.mono {H:Hp} {p:Addr} {f:Str->Option Rat} {n n':Nat} (h:RatD H p f n) (l:n<=n'):RatD H p f n':=by
 obtain ⟨kvs,h1,h2,h3⟩:=h.ex
 exact ⟨kvs,h1,h2,by omega⟩
section
variable {C Cm:Addr} {H:Hp} {a:At5} {most:Int} {nm nm':Nm} {tg gs tg' gs':Str->Option Rat} {ck:Rat} {ch:V} {N N':Nat} {k:List (Key×V)}
theorem Sx.set_t (S:Sx C Cm H a most nm tg gs ck ch N) (le:N<=N') (d:RatD (upd H a.pt (.dK k)) a.pt tg' N'):Sx C Cm (upd H a.pt (.dK k)) a most nm tg' gs ck ch N':=by
 obtain ⟨dx,fs,pr,h1,h2,h3⟩:=S.ex
 obtain ⟨kvs,g1,_⟩:=S.dt.ex
 obtain ⟨dm,fm,m1,m2⟩:=S.mb.ex
 have kp:∀ b o,b≠a.pt->H b=some o->upd H a.pt (.dK k) b=some o:=fun b o n e=>by rw [zai n]; exact e
 refine ⟨⟨dx,fs,pr,kp _ _ (ne_of h1 g1 (by intro z; cases z)) h1,h2,kp _ _ (ne_of h3 g1 (by intro z; cases z)) h3⟩,⟨⟨dm,fm,kp _ _ (ne_of m1 g1 (by intro z; cases z)) m1,m2⟩,kp _ _ S.n2.symm S.mb.hs⟩,d,(S.dg.keep fun b o c e=>?_).mono le,by have:=S.nl; omega,S.n1,S.n2,S.n3,S.n4⟩
 rcases c with z | ⟨xs,z⟩
 ·subst z; exact kp _ _ S.n1.symm e
 ·exact kp _ _ (ne_of z g1 (by intro z; cases z)) e
theorem Sx.set_g (S:Sx C Cm H a most nm tg gs ck ch N) (le:N<=N') (d:RatD (upd H a.pg (.dK k)) a.pg gs' N'):Sx C Cm (upd H a.pg (.dK k)) a most nm tg gs' ck ch N':=by
 obtain ⟨dx,fs,pr,h1,h2,h3⟩:=S.ex
 obtain ⟨kvs,g1,_⟩:=S.dg.ex
 obtain ⟨dm,fm,m1,m2⟩:=S.mb.ex
 have kp:∀ b o,b≠a.pg->H b=some o->upd H a.pg (.dK k) b=some o:=fun b o n e=>by rw [zai n]; exact e
 refine ⟨⟨dx,fs,pr,kp _ _ (ne_of h1 g1 (by intro z; cases z)) h1,h2,kp _ _ (ne_of h3 g1 (by intro z; cases z)) h3⟩,⟨⟨dm,fm,kp _ _ (ne_of m1 g1 (by intro z; cases z)) m1,m2⟩,kp _ _ S.n3.symm S.mb.hs⟩,(S.dt.keep fun b o c e=>?_).mono le,d,by have:=S.nl; omega,S.n1,S.n2,S.n3,S.n4⟩
 rcases c with z | ⟨xs,z⟩
 ·subst z; exact kp _ _ S.n1 e
 ·exact kp _ _ (ne_of z g1 (by intro z; cases z)) e
theorem Sx.set_s (S:Sx C Cm H a most nm tg gs ck ch N) (le:N<=N') (ln:nm'.length<=N'):Sx C Cm (upd H a.ps (.dK (kvsOf nm'))) a most nm' tg gs ck ch N':=by
 obtain ⟨dx,fs,pr,h1,h2,h3⟩:=S.ex
 have g1:=S.mb.hs
 have kp:∀ b o,b≠a.ps->H b=some o->upd H a.ps (.dK (kvsOf nm')) b=some o:=fun b o n e=>by rw [zai n]; exact e
 refine ⟨⟨dx,fs,pr,kp _ _ (ne_of h1 g1 (by intro z; cases z)) h1,h2,kp _ _ (ne_of h3 g1 (by intro z; cases z)) h3⟩,S.mb.put,(S.dt.keep fun b o c e=>?_).mono le,(S.dg.keep fun b o c e=>?_).mono le,ln,S.n1,S.n2,S.n3,S.n4⟩
 ·rcases c with z | ⟨xs,z⟩
  ·subst z; exact kp _ _ S.n2 e
  ·exact kp _ _ (ne_of z g1 (by intro z; cases z)) e
 ·rcases c with z | ⟨xs,z⟩
  ·subst z; exact kp _ _ S.n3 e
  ·exact kp _ _ (ne_of z g1 (by intro z; cases z)) e
end
theorem own_t {a:At5} {H:Hp} {o:HO}:Own a H (upd H a.pt o):=fun b u n1 n2 n3 n4 e=>by rw [zai n3]; exact e
theorem own_g {a:At5} {H:Hp} {o:HO}:Own a H (upd H a.pg o):=fun b u n1 n2 n3 n4 e=>by rw [zai n4]; exact e
theorem own_s {a:At5} {H:Hp} {o:HO}:Own a H (upd H a.ps o):=fun b u n1 n2 n3 n4 e=>by rw [zai n2]; exact e
theorem rat01:((0:Int):Rat) / ((1:Int):Rat) = 0:=by
 have z0:((0:Int):Rat) = 0:=rfl
 rw [z0]; grind
end L2
namespace L2
open PySem PySem.Spec PyProof.Rows
structure Iv (nm:Nm) (tg gs:Str->Option Rat) (ck:Rat) (D:Int) (n:Nat):Prop where
 d0:0<D
 dz:Sw.Sz (21*n+1) D
 cg:Sw.Grd D ck
 c0:0<=ck
 cB:ck<=((n*2000000:Int):Rat)
 all:∀ x s,shOf nm x=some s->1<=s/\s<=1000000/\∃ t g,tg x=some t/\gs x=some g/\Sw.Grd D t/\Sw.Grd D g/\0<=t/\0<=g/\g<=((1000000:Int):Rat)/\t<=ck+g
end L2
namespace L2
open PySem PySem.Spec PyProof.Rows
structure Hd where
 C:Addr
 i:Option Nat
 th:TS
def Hd.run (h:Hd) (e:Addr):TS:=fun D σ H=>match h.i with
 | none=>h.th D σ H
 | some i=>h.th { nx:=fun σ H=>D.nx (σ.set i none) H,rt:=D.rt,bk:=fun σ H=>D.bk (σ.set i none) H,ct:=fun σ H=>D.ct (σ.set i none) H } (σ.set i (some (.ref e))) H
def hkM (K:PySem.W.Frag):List Hd->Ends->Addr->Addr->St->Hp->Prop
 | [],_,_,_,_,_=>False
 | h :: r,D,e,C,σ,H=>(PySem.W.subIn K (.ref C) (.ref h.C)=some true/\h.run e D σ H)\/(PySem.W.subIn K (.ref C) (.ref h.C)=some false/\hkM K r D e C σ H)
def hkMs (K:PySem.W.Frag) (hs:List Hd) (D:Ends):XH:=fun v d σ H=>∃ e C,v = .ref e/\H e=some (excO e C d false)/\hkM K hs D e C σ H
def tTryM (K:PySem.W.Frag) (hs:List Hd) (tb:XH->TS):TS:=fun D σ H=>tb (hkMs K hs D) D σ H
def PHs (X:Cx) (hds:List ExceptHandler) (hs:List Hd):Prop :=
 ∀ (pins:List (Addr×Obj)) (σ1:St) (H1 H':Hp) (s2 s1:Shared) (B h2:Heap) (ea C:Addr) (dct:Option Addr) (f:Value) (D:Ends),Inv X pins σ1 H1 s2->Fly X.prog X.w B X.stack ea C dct H' s1.heap->s1.os=s2.os->AllBare s1.gens->Un (frs X.stack) [] H1 H' s2.heap s1.heap ->
  (∀ b o,s2.heap.get? b=some o->H1 b=none->b ∉ frs X.stack->B.get? b=some o)->XAt B ea (.ref C) dct (some f) h2->UpS s1.heap h2->hkM X.K hs D ea C σ1 H'->wpAny (model X.prog X.w) X.A (handleBy (.ref ea) X.env hds) (SP X pins D) X.xe { s1 with heap:=h2 }
section
variable {P:Program} {w:World} {X:Cx} {C':Addr} {x:Str} {np hpos pos:Pos} {body suite:List Stmt} {b0:Stmt} {tb:XH->TS} {th:TS} {h0:ExceptHandler} {hds:List ExceptHandler} {hs:List Hd}
theorem zse:PHs X [] []:=fun _ _ _ _ _ _ _ _ _ _ _ _ _ _ _ _ _ _ _ _ _ q=>q.elim
theorem zks (K:PySem.W.Frag) (hK:X.K=K) (c:XC K C') (hg:Gl X x) (hm:X.mg x=some (.ref C')) (hsu:∀ e,PSs (sufCx X e) (b0 :: suite) th) (hr:PHs X hds hs) (hdb:(x == ("__debug__" : Str))=false:=by decide) :
    PHs X (.ExceptHandler (some (.Name x np)) none (b0 :: suite) hpos :: hds) (⟨C',none,th⟩ :: hs):=by
  subst hK
  intro pins σ1 H1 H' s2 s1 B h2 ea C dct f D J F hos hbr un cv x2 u2 q
  have J2:=zhn J F hos hbr un cv x2 u2
  refine wpAny_handleBy_cons (codeAny_handlers_test (zfm (X:=sufCx X ea) (inSuf J2) hg hm ?_ hdb)) (by intro z; cases z)
  obtain ⟨oe,vs,g1,g2,_⟩:=x2.ex
  rcases q with ⟨hsub,q⟩ | ⟨hsub,q⟩
  · refine zmk J2.kIn c g1 g2 hsub (codeAny_handlers_suite ?_)
    refine zhm (s:={ s1 with heap:=h2 }) x2 fun h3 x3 u3=>?_
    have J3:=zhn J F hos hbr un cv x3 (u2.trans u3)
    exact wpAny_mono (hsu ea pins _ σ1 H' D (inSuf J3) q) (fun f s4 z=>SP.unSuf J3.ok z) fun _ _ z=>False.elim z
  · exact zmk J2.kIn c g1 g2 hsub (hr pins σ1 H1 H' s2 s1 B h2 ea C dct f D J F hos hbr un cv x2 u2 q)
theorem zms {i:Nat} {n:Str} (K:PySem.W.Frag) (hK:X.K=K) (c:XC K C') (hg:Gl X x) (hm:X.mg x=some (.ref C')) (hN:X.N.Nodup) (hi:X.N[i]? = some n) (hl:X.env.scope.names.lookup n=some .local)
    (hsu:∀ e,PSs (sufCx X e) (b0 :: suite) th) (hr:PHs X hds hs) (hdb:(x == ("__debug__" : Str))=false:=by decide) :
    PHs X (.ExceptHandler (some (.Name x np)) (some n) (b0 :: suite) hpos :: hds) (⟨C',some i,th⟩ :: hs):=by
  subst hK
  intro pins σ1 H1 H' s2 s1 B h2 ea C dct f D J F hos hbr un cv x2 u2 q
  have J2:=zhn J F hos hbr un cv x2 u2
  refine wpAny_handleBy_cons (codeAny_handlers_test (zfm (X:=sufCx X ea) (inSuf J2) hg hm ?_ hdb)) (by intro z; cases z)
  obtain ⟨oe,vs,g1,g2,_⟩:=x2.ex
  rcases q with ⟨hsub,q⟩ | ⟨hsub,q⟩
  · refine zmk J2.kIn c g1 g2 hsub (codeAny_handlers_suite_as ?_)
    refine zhm (s:={ s1 with heap:=h2 }) x2 fun h3 x3 u3=>?_
    have J3:=zhn J F hos hbr un cv x3 (u2.trans u3)
    refine zga (X:=sufCx X ea) (v:=V.ref ea) (inSuf J3) hN hi (.inl hl) rfl (fun s4 J4=>?_) (.inr hl)
    refine wpAny_mono (hsu ea pins s4 _ H' _ J4 q) (fun f s5 z=>?_) fun _ _ z=>False.elim z
    have o:X.Ok:=J3.ok
    show wpAny _ _ _ (fun _ s6=>SP X pins D f s6) _ _
    cases f with
    | next=>obtain ⟨σ5,H5,J5,q5⟩:=z; exact zkq (unSuf o J5) hN hi hl fun s6 J6=>⟨_,_,J6,q5⟩
    | brk=>obtain ⟨σ5,H5,J5,q5⟩:=z; exact zkq (unSuf o J5) hN hi hl fun s6 J6=>⟨_,_,J6,q5⟩
    | cont=>obtain ⟨σ5,H5,J5,q5⟩:=z; exact zkq (unSuf o J5) hN hi hl fun s6 J6=>⟨_,_,J6,q5⟩
    | ret u=>obtain ⟨v,σ5,H5,J5,r5,q5⟩:=z; exact zkq (unSuf o J5) hN hi hl fun s6 J6=>⟨v,_,_,J6,r5,q5⟩
  · exact zmk J2.kIn c g1 g2 hsub (hr pins σ1 H1 H' s2 s1 B h2 ea C dct f D J F hos hbr un cv x2 u2 q)
theorem zoa (hP:X.prog=P) (hw:X.w=w) (K:PySem.W.Frag) (hK:X.K=K) (hst:X.stack=X.env :: X.outer) (hf:X.env.frame=some X.env.locals)
    (hb:∀ pins Hk,PSs (tryCx P w X pins Hk) body (tb Hk)) (hh:PHs X (h0 :: hds) hs):PS X (.Try body (h0 :: hds) [] [] pos) (tTryM K hs tb):=by
  subst hP hw hK
  intro pins s σ H D I h
  refine wpAny_Try_except (wpAny_mono (hb pins _ [] s σ H D (inTry I) h) (fun f s1 z=>?_) fun ev s1 z=>?_)
  · have z:=SP.unTry z
    cases f with
    | next=>obtain ⟨σ1,H1,I1,q⟩:=z; exact wpAny_execs_nil ⟨σ1,H1,I1,q⟩
    | brk=>exact z
    | cont=>exact z
    | ret u=>exact z
  · obtain ⟨σ1,H1,s2,J,B,ea,C,dct,H',rfl,hos,hbr,F,un,cv,e2,C2,hv,he2,q⟩:=z
    cases hv
    have eC:C2=C/\True:=by
      obtain ⟨oe,vs,g1,g2,_⟩:=F.hok.exc he2
      obtain ⟨oe',vs',g1',g2',_⟩:=F.hok.exc F.he
      rw [g1] at g1'
      cases g1'
      rw [g2] at g2'
      exact ⟨Value.ref.inj g2',trivial⟩
    obtain ⟨rfl,_⟩:=eC
    obtain ⟨fl0,hfl,x0⟩:=F.at_
    refine znt (outer:=X.outer) (by rw [<- hst]; exact J.ok.frames) (by rw [<- hst]; exact F.ff) hf x0 hfl fun h1 x1 u1=>?_
    refine zhm (s:={ s1 with heap:=h1 }) x1 fun h2 x2 u2=>?_
    exact hh pins σ1 H1 H' s2 s1 B h2 ea C2 dct _ D J F hos hbr un cv x2 (u1.trans u2) q
theorem zhr {K:PySem.W.Frag} {h:Hd} {r:List Hd} {D:Ends} {e C:Addr} {σ:St} {H:Hp} (s:PySem.W.subIn K (.ref C) (.ref h.C)=some true) (q:h.run e D σ H):hkM K (h :: r) D e C σ H:=.inl ⟨s,q⟩
theorem zob {K:PySem.W.Frag} {h:Hd} {r:List Hd} {D:Ends} {e C:Addr} {σ:St} {H:Hp} (s:PySem.W.subIn K (.ref C) (.ref h.C)=some false) (q:hkM K r D e C σ H):hkM K (h :: r) D e C σ H:=.inr ⟨s,q⟩
end
end L2
namespace L2
open PySem PySem.Spec PyProof.Rows
section
variable {X:Cx}
end
end L2
namespace L2
open PySem PySem.Spec PyProof.Rows PySem.MeetsSeq
section
variable {X:Cx}
end
end L2
namespace L2
open PySem PySem.Spec PyProof.Rows
section
variable {X:Cx}
end
end L2
namespace L2
open PySem PySem.Spec PyProof.Rows
end L2
namespace L2
open PySem PySem.Spec PyProof.Rows
def Iti (a:Addr) (o:Obj) (kvs:List (Key×V)):It :=
 ⟨fun i H=>i<kvs.length/\H a=some (.frz o (.dK kvs)),fun i H x H'=>∃ p kv,x = .ref p/\H p=none/\kvs[i]? = some kv/\H'=upd H p (.tup [kV kv.1,kv.2]),fun i H=>kvs.length<=i/\H a=some (.frz o (.dK kvs))⟩
theorem zqf {P:Program} {w:World} {K:PySem.W.Frag} {elts:List Expr} {x1} {pos:Pos} (a it:Addr) {o:Obj} {kvs:List (Key×V)} {vs:List (Key×Value)} {es:Array DictEntry} {ep:Nat} (rel:KV kvs vs)
    (ho:o.ExactDict/\o.data = .dict es ep/\KeysOf (zbf P w) es/\Pairs (zbf P w) es.toList vs/\(vs.map (·.1)).Nodup):Turn P w K (.Tuple elts x1 pos) (Iti a o kvs) [it] it (fun i h=>∃ ok ov,IsItemIter h it a i vs.length ep ok ov) where
  mem:=by simp
  obj:=fun i h st b hb=>by
    have e:b=it:=by simpa using hb
    subst e
    obtain ⟨ok,ov,e⟩:=st
    exact ⟨_,e,fun v z=>by cases z⟩
  keep:=fun i h h' st k=>by
    obtain ⟨ok,ov,e⟩:=st
    exact ⟨ok,ov,k it (by simp) _ e⟩
  item:=by
    intro X hP hw hK hc i pins s σ H E I hf st hg
    subst hP hw hK
    obtain ⟨hi,hz⟩:=hg
    obtain ⟨ok,ov,he⟩:=st
    obtain ⟨f0,f1,f2,f3,f4,f5⟩:=hf it (by simp)
    have hkv:kvs[i]? = some (kvs[i]'hi):=List.getElem?_eq_getElem _
    have hi':i<vs.length:=by rw [<- rel.length]; exact hi
    have hv:vs[i]? = some (vs[i]'hi'):=List.getElem?_eq_getElem _
    obtain ⟨q,hq,rq⟩:=zgc rel hkv
    rw [hv] at hq
    cases hq
    have da:s.heap.DictAt (zbf X.prog X.w) a vs ep:=⟨o,es,(I.hok a _ hz).1,ho⟩
    refine wpAny_pyNext_items_item (v:=(vs[i]'hi').2) he da hv fun key h' hkey ho' hT hsz hk=>?_
    refine ⟨.ref s.heap.objs.size,rfl,wpAny_letOwnedTupleGo_items ho' fun hp2 hz2 hs2=>?_⟩
    have hs2':Heap.SameBut it h' hp2:=hs2
    have nsz:s.heap.objs.size≠it:=Nat.ne_of_gt (Heap.lt_size he)
    have htup:hp2.get? s.heap.objs.size=some { cls:=.type "tuple", data:=.seq #[key,(vs[i]'hi').2] }:=(hs2'.2 _ nsz).trans hT
    have k2:∀ c o,c ∉ [it]->s.heap.get? c=some o->hp2.get? c=some o:=fun c o n q=>by
      simp only [List.mem_cons,List.not_mem_nil,or_false] at n
      exact (hs2'.2 c n).trans (hk c o n q)
    have fresh:H s.heap.objs.size=none:=I.hok.fresh (Nat.le_refl _)
    have nit:∀ c v,H c=some v->c ∉ [it]:=fun c v q h=>by
      have e:c=it:=by simpa using h
      rw [e,f0] at q; cases q
    have up:∀ c o,H c=some o->(upd H s.heap.objs.size (.tup [kV (kvs[i]'hi).1,(kvs[i]'hi).2])) c=some o:=fun c o q=>by rw [zai (zao q fresh)]; exact q
    have rk:RelV (kV (kvs[i]'hi).1) key:=by rw [rq.1]; exact kV_of hkey
    have I2:Inv X pins σ (upd H s.heap.objs.size (.tup [kV (kvs[i]'hi).1,(kvs[i]'hi).2])) { s with heap:=hp2 }:=by
      refine I.step (t':=s.toks) (g':=s.gens) (d':=s.drawn) (ch:=[it]) (fun c hc=>?_) (fun c o _ _ hc q _=>k2 c o hc q)
        (fun c o _ _ hc q _=>⟨o.slots,k2 c o hc q⟩) (fun c o _ q n=>by rw [zai (Nat.ne_of_lt (Heap.lt_size q))]; exact n)
        (fun c o hc q=>⟨o,k2 c o hc q⟩) (fun c zs q=>up c _ q) (fun c ob v q=>up c _ q) (fun c ps q=>⟨#[],by rw [up c _ q]; simp⟩) (fun m hm=>?_) (fun c v q=>?_) I.bare
      · obtain ⟨f0,f1,f2,f3,f4,f5⟩:=hf c hc
        exact ⟨f3,f1,f4,f5⟩
      · obtain ⟨o,es,ep,ho,r⟩:=hm
        refine ⟨o,es,ep,k2 _ o (fun h=>?_) ho,r⟩
        exact (hf _ h).2.1 rfl
      · by_cases hb:c=s.heap.objs.size
        · subst hb
          rw [zac] at q
          cases q
          exact ⟨by show 2<=sizeLine; decide,[key,(vs[i]'hi').2],.cons rk (.cons rq.2 .nil),_,htup,rfl,_,rfl⟩
        · rw [zai hb] at q
          refine (I.hok c v q).stay (fun d v' hd q'=>?_) (fun d y=>up d _ y) fun d zs y=>up d _ y
          refine k2 d v' ?_ q'
          rcases hd with y | y
          · rw [y]; exact nit c v q
          · exact nit d _ y
    refine ⟨.ref s.heap.objs.size,_,I2,rfl,⟨s.heap.objs.size,_,rfl,fresh,hkv,rfl⟩,⟨_,_,hz2⟩,fun c hc=>?_⟩
    have e:c=it:=by simpa using hc
    subst e
    rw [zai nsz.symm]
    exact f0
  done:=by
    intro X hP hw hK hc i pins s σ H E I hf st hg
    subst hP hw hK
    obtain ⟨hi,hz⟩:=hg
    obtain ⟨ok,ov,he⟩:=st
    obtain ⟨f0,f1,f2,f3,f4,f5⟩:=hf it (by simp)
    have da:s.heap.DictAt (zbf X.prog X.w) a vs ep:=⟨o,es,(I.hok a _ hz).1,ho⟩
    exact wpAny_pyNext_items_end (I.ok.hd hc) he da (List.getElem?_eq_none (by rw [<- rel.length]; exact hi)) fun h' eb=>⟨rfl,I.turned (t':=s.toks) (fun b o hb e=>eb b o hb e) f0 f1 f3 f4 f5⟩
  self:=fun _ _ _ _ _ st h=>by
    obtain ⟨ok,ov,he⟩:=st
    exact PySem.W.kcp_self he h
section
variable {X:Cx}
end
section
variable {X:Cx} {pins:List (Addr×Obj)} {σ:St} {H:Hp} {s:Shared} {a vw:Addr} {kvs:List (Key×V)} {Q:VK}
end
end L2
namespace L2
open PySem PySem.Spec PyProof.Rows
section
variable {X:Cx}
end
end L2
namespace L2
open PySem PySem.Spec PyProof.Rows
section
variable {X:Cx}
end
def zuq (tl:TE):TI:=fun σ H R=>tl σ H fun x H1=>∃ a kvs,x = .ref a/\H1 a=some (.dK kvs)/\∀ o,R (Iti a o kvs) (upd H1 a (.frz o (.dK kvs)))
section
variable {X:Cx}
theorem ztn {o:Expr} {apos cpos tpos:Pos} {elts:List Expr} {x1} {tl:TE} (hl:PE X o tl) (hbase:attributeBase o "items" X.env (eval o X.env)=eval o X.env:=by rfl) (hline:(apos.endLine == cpos.line)=true:=by rfl) :
    PI X (.Tuple elts x1 tpos) (.Call (.Attribute o "items" apos) [] [] cpos) (zuq tl):=by
  intro pins s σ H R I h
  refine wpAny_Call_method0_late hbase hline (thn (hl pins s σ H _ I h) fun v s1 ⟨x,H1,I1,r1,a,kvs,ex,ha,hall⟩=>?_)
  subst ex
  obtain rfl:v=Value.ref a:=r1
  obtain ⟨t1,t2,_⟩:=zsa I1 (.inl ⟨kvs,.inl ha⟩)
  obtain ⟨z,hd,vs,rel,o',es,ep,ho,hx⟩:=dk_of I1.hok ha
  refine ⟨"dict", "dict.items", PySem.F.plainAttrs_dict,PySem.F.slot_dict_items,PySem.F.type_dict_items,t1,t2,Calls.callWith_builtin rfl (PySem.evalArgs_none ?_)⟩
  refine call_meetsIn PySem.F.slot_dict_items t1 PySem.F.entry_dict_items (PySem.F.args_dict_items_1 _) (meets_dict_items (zbf X.prog X.w) a hd) ⟨⟨vs,o',es,ep,ho,hx⟩,?_⟩
  have Iv:Inv X pins σ H1 { s1 with heap:=s1.heap.push { cls:=.type "dict_items", data:=.fields #[.ref a] } }:=I1.kept (t':=s1.toks) fun b o e=>Heap.get?_push_of_some _ e
  have hov:(s1.heap.push { cls:=.type "dict_items", data:=.fields #[.ref a] }).get? a=some o':=Heap.get?_push_of_some _ ho
  have hvw:(s1.heap.push { cls:=.type "dict_items", data:=.fields #[.ref a] }).IsItemsView s1.heap.objs.size a:=⟨_,Heap.get?_push_size _ rfl,rfl,rfl⟩
  generalize s1.heap.push { cls:=.type "dict_items", data:=.fields #[.ref a] } = hv at Iv hov hvw ⊢
  refine wpAny_pyIter_items (s:={ s1 with heap:=hv }) (knd:=zbf X.prog X.w) hvw ⟨o',es,hov,hx⟩ ?_
  have fresh:H1 hv.objs.size=none:=Iv.hok.fresh (Nat.le_refl _)
  have na:hv.objs.size≠a:=fun y=>by rw [y,ha] at fresh; cases fresh
  have I2:Inv X pins σ (upd H1 a (.frz o' (.dK kvs))) { s1 with heap:=hv.push { cls:=.type "dict_itemiterator", data:=.fields #[.none,.bool false,.ref a,.int 0 0,.int vs.length 0,.int ep 0,.none,.none] } } :=
    (Iv.kept (t':=s1.toks) fun b o e=>Heap.get?_push_of_some _ e).frozen ha (Heap.get?_push_of_some _ hov)
  refine ⟨hv.objs.size,[hv.objs.size],_,_,_,rfl,I2,zqf a _ rel hx,⟨.none,.none,Heap.get?_push_size _ rfl⟩,fun b hb=>?_,hall o'⟩
  have e:b=hv.objs.size:=by simpa using hb
  subst e
  have fp1:=Iv.fpOk (Nat.le_refl _) fresh
  exact ⟨by rw [zai na]; exact fresh,fp1.2⟩
def tThaw (t:TE):TE:=fun σ H Q=>t σ H fun x H'=>∃ a o kvs kvs',H a=some (.dK kvs')/\H' a=some (.frz o (.dK kvs))/\Q x (upd H' a (.dK kvs))
theorem zvw {e:Expr} {t:TE} (h:PE X e t):PE X e (tThaw t):=by
 intro pins s σ H Q I q
 refine thn (h pins s σ H _ I q) fun v s1 ⟨x,H1,I1,r1,a,o,kvs,kvs',h0,h1,q1⟩=>?_
 refine ⟨x,_,I1.thawed h1 fun o' u e=>?_,r1,q1⟩
 have:=I.base.frzs a o' u e
 rw [h0] at this
 cases this
end
theorem zqg {a:Addr} {kvs:List (Key×V)} {o:Obj} {g:TG} {tc:TT} {te:TE} {D:Addr} {τ:St} {H:Hp} {Q:VK} (Pv:Nat->St->Hp->Prop) (h0:Pv 0 τ H) (hz:∀ i τ H,i<=kvs.length->Pv i τ H->H a=some (.frz o (.dK kvs)))
    (hs:∀ i kv τ H p,kvs[i]? = some kv->Pv i τ H->H p=none->g (.ref p) τ (upd H p (.tup [kV kv.1,kv.2])) fun τ2 H3=>tc τ2 H3 fun b H4=>if b=true then te τ2 H4 fun y H5=>∃ ys,H5 D=some (.lst ys)/\ys.length<sizeLine/\Pv (i+1) τ2 (upd H5 D (.lst (ys++[y]))) else Pv (i+1) τ2 H4)
    (hd:∀ τ H,Pv kvs.length τ H->Q (.ref D) H):CompG (Iti a o kvs) g tc te D τ H Q:=by
  refine ⟨fun i m τ H=>m=kvs.length-i/\i<=kvs.length/\Pv i τ H,⟨kvs.length,by simp,Nat.zero_le _,h0⟩,?_⟩
  rintro i m τ H ⟨rfl,hi,p⟩
  have q:=hz i τ H hi p
  by_cases hlt:i<kvs.length
  · refine .inr ⟨⟨hlt,q⟩,Pv (i+1),fun τ' H' p'=>⟨kvs.length-(i+1),by omega,rfl,hlt,p'⟩,fun x H2 z=>?_⟩
    obtain ⟨b,kv,rfl,hb,hkv,rfl⟩:=z
    exact hs i kv τ H b hkv p hb
  · have e:i=kvs.length:=by omega
    subst e
    exact .inl ⟨⟨Nat.le_refl _,q⟩,hd τ H p⟩
end L2
namespace L2
open PySem PySem.Spec PyProof.Rows
def optS:Option Str->V
 | none=>.non
 | some x=>.str x
structure FR (fs:List (Str×V)) (most:Int) (pm:Addr) (ch:V) (pt pg:Addr) (tu:Option Str):Prop where
 mo:fs.lookup ("most" : Str)=some (.int most)
 me:fs.lookup ("members" : Str)=some (.ref pm)
 ch:fs.lookup ("chosen" : Str)=some ch
 qu:fs.lookup ("queue" : Str)=some (.ref pt)
 re:fs.lookup ("rests" : Str)=some (.ref pg)
 tu:fs.lookup ("turn" : Str)=some (optS tu)
 no:∀ m:Str,¬ m = "most" -> ¬ m = "members" -> ¬ m = "chosen" -> ¬ m = "queue" -> ¬ m = "rests" -> ¬ m = "turn" -> fs.lookup m=none
 len:fs.length<900
theorem FR.mk0 (most:Int) (pm:Addr) (ch:V) (pt pg:Addr):FR (putF "turn" .non (putF "rests" (.ref pg) (putF "queue" (.ref pt) (putF "chosen" ch (putF "members" (.ref pm) (putF "most" (.int most) [])))))) most pm ch pt pg none:=by
 refine ⟨?_,?_,?_,?_,?_,?_,fun m h1 h2 h3 h4 h5 h6=>?_,?_⟩
 ·rw [zal (by decide +kernel),zal (by decide +kernel),zal (by decide +kernel),zal (by decide +kernel),zal (by decide +kernel),zbw]
 ·rw [zal (by decide +kernel),zal (by decide +kernel),zal (by decide +kernel),zal (by decide +kernel),zbw]
 ·rw [zal (by decide +kernel),zal (by decide +kernel),zal (by decide +kernel),zbw]
 ·rw [zal (by decide +kernel),zal (by decide +kernel),zbw]
 ·rw [zal (by decide +kernel),zbw]
 ·rw [zbw]; rfl
 ·rw [zal h6,zal h5,zal h4,zal h3,zal h2,zal h1]; rfl
 ·have a1:=zan (fs:=[]) (f := "most") (v:=.int most)
  have a2:=zan (fs:=putF "most" (.int most) []) (f := "members") (v:=.ref pm)
  have a3:=zan (fs:=putF "members" (.ref pm) (putF "most" (.int most) [])) (f := "chosen") (v:=ch)
  have a4:=zan (fs:=putF "chosen" ch (putF "members" (.ref pm) (putF "most" (.int most) []))) (f := "queue") (v:=.ref pt)
  have a5:=zan (fs:=putF "queue" (.ref pt) (putF "chosen" ch (putF "members" (.ref pm) (putF "most" (.int most) [])))) (f := "rests") (v:=.ref pg)
  have a6:=zan (fs:=putF "rests" (.ref pg) (putF "queue" (.ref pt) (putF "chosen" ch (putF "members" (.ref pm) (putF "most" (.int most) []))))) (f := "turn") (v:=.non)
  simp only [List.length_nil] at a1
  omega
structure Rx (C Cm:Addr) (H:Hp) (a:At5) (most:Int) (nm:Nm) (q:List Str) (rs:Nm) (tu:Option Str) (ch:V):Prop where
 ex:∃ dx fs,H a.p=some (.ins C dx fs)/\FR fs most a.pm ch a.pt a.pg tu
 mb:Mb Cm H a.pm a.ps nm
 hq:H a.pt=some (.lst (q.map V.str))
 hr:H a.pg=some (.dK (kvsOf rs))
 n3:a.pg≠a.ps
 n4:a.p≠a.pm
section
variable {C Cm:Addr} {H H':Hp} {a:At5} {most:Int} {nm nm':Nm} {q q':List Str} {rs rs':Nm} {tu tu':Option Str} {ch ch':V}
theorem Rx.set_q (S:Rx C Cm H a most nm q rs tu ch):Rx C Cm (upd H a.pt (.lst (q'.map V.str))) a most nm q' rs tu ch:=by
 obtain ⟨dx,fs,h1,h2⟩:=S.ex
 obtain ⟨dm,fm,m1,m2⟩:=S.mb.ex
 have kp:∀ b o,b≠a.pt->H b=some o->upd H a.pt (.lst (q'.map V.str)) b=some o:=fun b o n e=>by rw [zai n]; exact e
 exact ⟨⟨dx,fs,kp _ _ (ne_of h1 S.hq (by intro z; cases z)) h1,h2⟩,⟨⟨dm,fm,kp _ _ (ne_of m1 S.hq (by intro z; cases z)) m1,m2⟩,kp _ _ (ne_of S.mb.hs S.hq (by intro z; cases z)) S.mb.hs⟩,zac,kp _ _ (ne_of S.hr S.hq (by intro z; cases z)) S.hr,S.n3,S.n4⟩
theorem Rx.set_r (S:Rx C Cm H a most nm q rs tu ch):Rx C Cm (upd H a.pg (.dK (kvsOf rs'))) a most nm q rs' tu ch:=by
 obtain ⟨dx,fs,h1,h2⟩:=S.ex
 obtain ⟨dm,fm,m1,m2⟩:=S.mb.ex
 have kp:∀ b o,b≠a.pg->H b=some o->upd H a.pg (.dK (kvsOf rs')) b=some o:=fun b o n e=>by rw [zai n]; exact e
 exact ⟨⟨dx,fs,kp _ _ (ne_of h1 S.hr (by intro z; cases z)) h1,h2⟩,⟨⟨dm,fm,kp _ _ (ne_of m1 S.hr (by intro z; cases z)) m1,m2⟩,kp _ _ S.n3.symm S.mb.hs⟩,kp _ _ (ne_of S.hq S.hr (by intro z; cases z)) S.hq,zac,S.n3,S.n4⟩
theorem Rx.set_s (S:Rx C Cm H a most nm q rs tu ch):Rx C Cm (upd H a.ps (.dK (kvsOf nm'))) a most nm' q rs tu ch:=by
 obtain ⟨dx,fs,h1,h2⟩:=S.ex
 have g1:=S.mb.hs
 have kp:∀ b o,b≠a.ps->H b=some o->upd H a.ps (.dK (kvsOf nm')) b=some o:=fun b o n e=>by rw [zai n]; exact e
 exact ⟨⟨dx,fs,kp _ _ (ne_of h1 g1 (by intro z; cases z)) h1,h2⟩,S.mb.put,kp _ _ (ne_of S.hq g1 (by intro z; cases z)) S.hq,kp _ _ S.n3 S.hr,S.n3,S.n4⟩
theorem Rx.meth {m:Str} {Z:Prop} (S:Rx C Cm H a most nm q rs tu ch) (h:¬ m = "most" /\ ¬ m = "members" /\ ¬ m = "chosen" /\ ¬ m = "queue" /\ ¬ m = "rests" /\ ¬ m = "turn") (z:Z):rMeth C m (.ref a.p) H Z:=by
 obtain ⟨dx,fs,hp,ft⟩:=S.ex
 exact zav hp (ft.no _ h.1 h.2.1 h.2.2.1 h.2.2.2.1 h.2.2.2.2.1 h.2.2.2.2.2) z
end
end L2
namespace Sw
open L2 PySem
theorem fst_put (nm:Nm) (x:Str) (s:Int):(putN nm x s).map (·.1)=nm.map (·.1):=by
 unfold putN
 rw [List.map_map]
 refine List.map_congr_left fun p _=>?_
 by_cases h:p.1=x
 ·simp [h]
 ·simp [h]
theorem sh_mem {nm:Nm} {x:Str}:shOf nm x≠none↔x∈nm.map (·.1):=by
 constructor
 ·intro h
  cases e:shOf nm x with
  | none=>exact absurd e h
  | some s=>exact List.mem_map.mpr ⟨_,ztm e,rfl⟩
 ·intro h
  obtain ⟨p,hp,e⟩:=List.mem_map.mp h
  have:(x,p.2)∈nm:=by rw [<- e]; exact hp
  exact znz this
theorem sh_none {nm:Nm} {x:Str}:shOf nm x=none↔x ∉ nm.map (·.1):=by
 constructor
 ·exact fun h z=>sh_mem.mpr z h
 ·intro h
  cases e:shOf nm x with
  | none=>rfl
  | some s=>exact absurd (sh_mem.mp (by rw [e]; simp)) h
structure RI (most:Int) (nm:Nm) (q:List Str) (rs:Nm) (tu:Option Str):Prop where
 m0:1<=most
 ks:rs.map (·.1)=nm.map (·.1)
 nd:(nm.map (·.1)).Nodup
 pm:(q++tu.toList).Perm (nm.map (·.1))
 sh:∀ x s,shOf nm x=some s->1<=s/\s<=1000000
 bd:∀ x s,shOf nm x=some s->∃ r,shOf rs x=some r/\0-most<r/\r<=s*most/\(0<r->tu=some x)
section
variable {most:Int} {nm:Nm} {q:List Str} {rs:Nm} {tu:Option Str}
theorem RI.nil (h:1<=most):RI most [] [] [] none:=⟨h,rfl,.nil,.refl _,fun x s e=>(by cases e),fun x s e=>(by cases e)⟩
theorem RI.put (h:RI most nm q rs tu) {x:Str} {s:Int} (hx:shOf nm x=none) (s0:1<=s) (s1:s<=1000000):RI most (nm++[(x,s)]) (q++[x]) (rs++[(x,0)]) tu:=by
 have hr:shOf rs x=none:=by rw [sh_none,h.ks,<- sh_none]; exact hx
 refine ⟨h.m0,?_,?_,?_,fun y t e=>?_,fun y t e=>?_⟩
 ·rw [List.map_append,List.map_append,h.ks]; rfl
 ·rw [List.map_append]
  refine List.nodup_append.mpr ⟨h.nd,by simp,fun a ha b hb=>?_⟩
  have:b=x:=by simpa using hb
  subst this
  exact fun z=>sh_none.mp hx (z ▸ ha)
 ·rw [List.map_append]
  have:=h.pm.append_right [x]
  refine List.Perm.trans ?_ this
  rw [List.append_assoc,List.append_assoc]
  exact List.Perm.append_left _ List.perm_append_comm
 ·rw [zgz hx] at e
  split at e
  ·cases e; exact ⟨s0,s1⟩
  ·exact h.sh y t e
 ·rw [zgz hx] at e
  rw [zgz hr]
  have m0:=h.m0
  split at e
  ·rename_i c
   cases e
   rw [if_pos c]
   have:=Int.mul_le_mul s0 h.m0 (by omega) (by omega)
   exact ⟨0,rfl,by omega,by omega,fun z=>absurd z (by decide)⟩
  ·rename_i c
   rw [if_neg c]
   exact h.bd y t e
theorem RI.resh (h:RI most nm q rs tu) {x:Str} {s r:Int} (hx:shOf nm x≠none) (hr:shOf rs x=some r) (s0:1<=s) (s1:s<=1000000):RI most (putN nm x s) q (putN rs x (if s*most<r then s*most else r)) tu:=by
 have m0:=h.m0
 have sm:=Int.mul_le_mul s0 h.m0 (by omega) (by omega)
 refine ⟨h.m0,by rw [fst_put,fst_put,h.ks],by rw [fst_put]; exact h.nd,by rw [fst_put]; exact h.pm,fun y t e=>?_,fun y t e=>?_⟩
 ·rw [zgy] at e
  split at e
  ·cases z:shOf nm y with
   | none=>rw [z] at e; cases e
   | some v=>rw [z] at e; cases e; exact ⟨s0,s1⟩
  ·exact h.sh y t e
 ·rw [zgy] at e ⊢
  split at e
  ·rename_i c
   subst c
   rw [if_pos rfl,hr]
   cases z:shOf nm y with
   | none=>exact absurd z hx
   | some v =>
    rw [z] at e
    have e:s=t:=by simpa using e
    subst e
    obtain ⟨r',a1,a2,a3,a4⟩:=h.bd y v z
    rw [hr] at a1
    cases a1
    refine ⟨if s*most<r then s*most else r,rfl,by split <;> omega,by split <;> omega,fun y=>a4 ?_⟩
    split at y <;> omega
  ·rename_i c
   rw [if_neg c]
   exact h.bd y t e
end
end Sw
namespace L2
open PySem PySem.Spec PyProof.Rows
section
variable {X:Cx}
end
end L2
namespace L2
open PySem PySem.Spec PyProof.Rows
end L2
namespace L2
open PySem PySem.Spec PyProof.Rows
def Itva (a:Addr) (o:Obj) (kvs:List (Key×V)):It :=
 ⟨fun i H=>i<kvs.length/\H a=some (.frz o (.dK kvs)),fun i H x H'=>H'=H/\∃ kv,kvs[i]? = some kv/\x=kv.2,fun i H=>kvs.length<=i/\H a=some (.frz o (.dK kvs))⟩
theorem zoc {P:Program} {w:World} {K:PySem.W.Frag} {tg:Expr} (a it:Addr) {o:Obj} {kvs:List (Key×V)} {vs:List (Key×Value)} {es:Array DictEntry} {ep:Nat} (rel:KV kvs vs)
    (ho:o.ExactDict/\o.data = .dict es ep/\KeysOf (zbf P w) es/\Pairs (zbf P w) es.toList vs/\(vs.map (·.1)).Nodup):Turn P w K tg (Itva a o kvs) [it] it (fun i h=>h.IsValIter it a i vs.length ep) where
  mem:=by simp
  obj:=fun i h st b hb=>by
    have e:b=it:=by simpa using hb
    subst e
    obtain ⟨o,e,c,d⟩:=st
    exact ⟨o,e,fun v z=>by rw [d] at z; cases z⟩
  keep:=fun i h h' st k=>by
    obtain ⟨o,e,c⟩:=st
    exact ⟨o,k it (by simp) o e,c⟩
  item:=by
    intro X hP hw hK hc i pins s σ H E I hf st hg
    subst hP hw hK
    obtain ⟨hi,hz⟩:=hg
    obtain ⟨f0,f1,f2,f3,f4,f5⟩:=hf it (by simp)
    have hkv:kvs[i]? = some (kvs[i]'hi):=List.getElem?_eq_getElem _
    have hi':i<vs.length:=by rw [<- rel.length]; exact hi
    have hv:vs[i]? = some (vs[i]'hi'):=List.getElem?_eq_getElem _
    obtain ⟨q,hq,rq⟩:=zgc rel hkv
    rw [hv] at hq
    cases hq
    have da:s.heap.DictAt (zbf X.prog X.w) a vs ep:=⟨o,es,(I.hok a _ hz).1,ho⟩
    refine wpAny_pyNext_values_item (k:=(vs[i]'hi').1) (v:=(vs[i]'hi').2) st da hv fun h' st' sb=>?_
    have I1:Inv X pins σ H { s with heap:=h' }:=I.turned (t':=s.toks) (fun b o hb e=>(sb.2 b hb).trans e) f0 f1 f3 f4 f5
    obtain ⟨oi,e,c,d⟩:=id st'
    exact ⟨(vs[i]'hi').2,rfl,go_of (s:={ s with heap:=h' }) e c d (by decide) ⟨(kvs[i]'hi).2,H,I1,rq.2,⟨rfl,_,hkv,rfl⟩,st',fun b hb=>(hf b hb).1⟩⟩
  done:=by
    intro X hP hw hK hc i pins s σ H E I hf st hg
    subst hP hw hK
    obtain ⟨hi,hz⟩:=hg
    obtain ⟨f0,f1,f2,f3,f4,f5⟩:=hf it (by simp)
    have da:s.heap.DictAt (zbf X.prog X.w) a vs ep:=⟨o,es,(I.hok a _ hz).1,ho⟩
    exact wpAny_pyNext_values_end (I.ok.hd hc) st da (List.getElem?_eq_none (by rw [<- rel.length]; exact hi)) fun h' eb=>⟨rfl,I.turned (t':=s.toks) (fun b o hb e=>eb b o hb e) f0 f1 f3 f4 f5⟩
  self:=fun _ _ _ _ _ st h=>wpAny_pyIter_valiter st h
section
variable {X:Cx}
end
end L2
namespace L2
open PySem PySem.Spec PyProof.Rows
def tOrE (t1 t2:TE):TE:=fun σ H Q=>t1 σ H Q\/t2 σ H Q
section
variable {X:Cx}
theorem zph {e:Expr} {t1 t2:TE} (h1:PE X e t1) (h2:PE X e t2):PE X e (tOrE t1 t2):=fun pins s σ H Q I h=>h.elim (h1 pins s σ H Q I) (h2 pins s σ H Q I)
end
end L2
namespace L2
open PySem PySem.Spec PyProof.Rows
theorem zqh {P:Program} {w:World} {A:Around} {Kt:Type} [DecidableEq Kt] {knd:KeyKind P w Kt} (hh:A.handled=none) (it a:Addr) (ne:it≠a) (vs:List (Kt×Value)) (ep:Nat) :
    WalksS P w A it [it,a] [it] (fun x y=>x=y) vs.length (fun i v=>∃ k,vs[i]? = some (k,v)) (fun i s=>s.heap.IsValIter it a i vs.length ep/\s.heap.DictAt knd a vs ep) where
  sub:=fun b hb=>by
    rw [List.mem_singleton.mp hb]; simp
  grefl:=fun _=>rfl
  gtrans:=fun _ _ _ h1 h2=>h1.trans h2
  frame:=fun i s h' tk ⟨st,da⟩ _ hk=>by
    obtain ⟨o,e,c⟩:=st
    obtain ⟨o',es,e',c'⟩:=da
    exact ⟨⟨o,hk it (by simp) o e,c⟩,o',es,hk a (by simp) o' e',c'⟩
  item:=fun i s Q E hi ⟨st,da⟩ q=>by
    have hv:vs[i]? = some (vs[i]'hi):=List.getElem?_eq_getElem _
    refine wpAny_pyNext_values_item (k:=(vs[i]'hi).1) (v:=(vs[i]'hi).2) st da hv fun h' st' sb=>?_
    obtain ⟨o',es,e',c'⟩:=id da
    exact q _ _ ⟨_,hv⟩ ⟨st',o',es,(sb.2 a (fun z=>ne z.symm)).trans e',c'⟩ ⟨fun b o hb e=>(sb.2 b (by simpa using hb)).trans e,rfl,rfl,rfl,Nat.le_refl _⟩
  done:=fun s Q E ⟨st,da⟩ q=>by
    refine wpAny_pyNext_values_end hh st da (List.getElem?_eq_none (Nat.le_refl _)) fun h' eb=>q _ ⟨fun b o hb e=>eb b o (by simpa using hb) e,rfl,rfl,rfl,Nat.le_refl _⟩
  self:=fun i s Q E ⟨st,_⟩ h=>wpAny_pyIter_valiter st h
theorem zvx {kvs:List (Key×V)} {vs:List (Key×Value)} (rel:KV kvs vs) {ns:List Int} (hk:kvs.map (·.2)=ns.map V.int) {i:Nat} {k:Key} {v:Value} (h:vs[i]? = some (k,v)):∃ t,v=Value.int (ns.getD i 0) t:=by
 have hi:i<kvs.length:=by rw [rel.length]; exact (List.getElem?_eq_some_iff.mp h).1
 have hkv:kvs[i]? = some kvs[i]:=List.getElem?_eq_getElem hi
 obtain ⟨q,hq,rq⟩:=zgc rel hkv
 rw [h] at hq
 cases hq
 have e:(kvs.map (·.2))[i]? = some kvs[i].2:=by rw [List.getElem?_map,hkv]; rfl
 rw [hk,List.getElem?_map] at e
 cases en:ns[i]? with
 | none=>rw [en] at e; cases e
 | some n =>
  rw [en] at e
  have e:V.int n=kvs[i].2:=Option.some.inj e
  have r:=rq.2
  rw [<- e] at r
  obtain ⟨t,ht⟩:=r
  exact ⟨t,by rw [List.getD_eq_getElem?_getD,en]; exact ht⟩
theorem ziw:∀ (ns:List Int) (k:Nat),k<=ns.length->preSum (fun i=>ns.getD i 0) k=(ns.take k).sum
 | _,0,_=>rfl
 | ns,k+1,h=>by
  have e:ns[k]? = some ns[k]:=List.getElem?_eq_getElem (by omega)
  rw [L2.take_succ_of e,List.sum_append,List.sum_singleton,<- ziw ns k (by omega)]
  show preSum _ k+ns.getD k 0 = _
  rw [List.getD_eq_getElem?_getD,e]
  rfl
def tSumV (td:TE):TE:=fun σ H Q=>td σ H fun x H1=>∃ (a:Addr) (kvs:List (Key×V)) (ns:List Int),x = .ref a/\H1 a=some (.dK kvs)/\kvs.map (·.2)=ns.map V.int/\Q (.int ns.sum) H1
section
variable {X:Cx}
theorem zvy {o:Expr} {td:TE} {p pos apos cpos:Pos} (hc:X.calm=true) (ho:PE X o td) (hg:Gl X "sum") (hm:X.mg "sum" = none) (hbase:attributeBase o "values" X.env (eval o X.env)=eval o X.env:=by rfl) (hline:(apos.endLine == cpos.line)=true:=by rfl)
    (hs:starEach [.Call (.Attribute o "values" apos) [] [] cpos] X.env=(false,eval (.Call (.Attribute o "values" apos) [] [] cpos) X.env) :: starEach [] X.env:=by rfl) (hpl:(backTo pos (starEach [] X.env)).any (·.1)=false:=by rfl) :
    PE X (.Call (.Name "sum" p) [.Call (.Attribute o "values" apos) [] [] cpos] [] pos) (tSumV td):=by
  intro pins s σ H Q I h
  refine wpAny_Call_Name_kw (zlq I hg hm PyProof.Rows.boot_sum ?_ (by decide) (by decide))
  refine PyProof.Rows.callWith_builtin1 ?_ hs hpl
  rw [hs]
  show wpAny _ _ (spliced ((false,eval _ X.env) :: backTo pos (starEach [] X.env))) _ _ s
  refine Calls.spliced_cons (wpAny_Call_method0_late hbase hline (thn (ho pins s σ H _ I h) fun v s1 ⟨x,H1,I1,r1,a,kvs,ns,ex,ha,hk,q⟩=>?_))
  subst ex
  obtain rfl:v=Value.ref a:=r1
  obtain ⟨t1,t2,_⟩:=zsa I1 (.inl ⟨kvs,.inl ha⟩)
  obtain ⟨z,hd,vs,rel,o',es,ep,ho',hx⟩:=dk_of I1.hok ha
  refine ⟨"dict", "dict.values", PySem.F.plainAttrs_dict,PySem.F.slot_dict_values,PySem.F.type_dict_values,t1,t2,Calls.callWith_builtin rfl (PySem.evalArgs_none ?_)⟩
  refine call_meetsIn PySem.F.slot_dict_values t1 PySem.F.entry_dict_values (PySem.F.args_dict_values_1 _) (meets_dict_values (zbf X.prog X.w) a hd) ⟨⟨vs,o',es,ep,ho',hx⟩,?_⟩
  have Iv:Inv X pins σ H1 { s1 with heap:=s1.heap.push { cls:=.type "dict_values", data:=.fields #[.ref a] } }:=I1.kept (t':=s1.toks) fun b o e=>Heap.get?_push_of_some _ e
  have hov:(s1.heap.push { cls:=.type "dict_values", data:=.fields #[.ref a] }).get? a=some o':=Heap.get?_push_of_some _ ho'
  have hvw:(s1.heap.push { cls:=.type "dict_values", data:=.fields #[.ref a] }).IsValuesView s1.heap.objs.size a:=⟨_,Heap.get?_push_size _ rfl,rfl,rfl⟩
  have ll:kvs.length=ns.length:=by have:=congrArg List.length hk; rw [List.length_map,List.length_map] at this; exact this
  refine Calls.spliced_nil ?_
  generalize s1.heap.push { cls:=.type "dict_values", data:=.fields #[.ref a] } = hv at Iv hov hvw ⊢
  refine call_sum_walkAnyS (wpAny_pyIter_values (s:={ s1 with heap:=hv }) (knd:=zbf X.prog X.w) hvw ⟨o',es,hov,hx⟩ ?_)
  have fresh:H1 hv.objs.size=none:=Iv.hok.fresh (Nat.le_refl _)
  have na:hv.objs.size≠a:=fun y=>by rw [y,ha] at fresh; cases fresh
  have W:=zqh (P:=X.prog) (w:=X.w) (A:=X.A.in1) (knd:=zbf X.prog X.w) (I1.ok.hd hc) hv.objs.size a na vs ep
  refine ⟨hv.objs.size,[hv.objs.size,a],[hv.objs.size],fun x y=>x=y,vs.length,_,_,fun i=>ns.getD i 0,rfl,W,⟨⟨_,Heap.get?_push_size _ rfl,rfl,rfl⟩,o',es,Heap.get?_push_of_some _ hov,hx⟩,fun b hb=>?_,fun i v ⟨k,hv⟩=>zvx rel hk hv,fun s' t' mv=>?_⟩
  · have l1:a<hv.objs.size:=Heap.lt_size hov
    simp only [List.mem_cons,List.not_mem_nil,or_false] at hb
    show b<(hv.push _).objs.size
    rw [size_push']
    rcases hb with rfl | rfl
    · exact Nat.lt_succ_self _
    · exact Nat.lt_succ_of_lt l1
  · obtain ⟨h',g',d',tk',os'⟩:=s'
    obtain ⟨m1,m2,m3,m4,m5⟩:=mv
    cases m2
    cases m3
    cases m4
    refine ⟨.int ns.sum,H1,Iv.kept (t':=tk') fun b o e=>m1 b o ?_ (Heap.get?_push_of_some _ e),⟨t',?_⟩,q⟩
    · have:=Heap.lt_size e
      intro z
      have z:=List.mem_singleton.mp z
      rw [z] at this
      exact Nat.lt_irrefl _ this
    · rw [<- rel.length,ll,ziw ns ns.length (Nat.le_refl _),List.take_length]
end
end L2
namespace L2
open PySem PySem.Spec PyProof.Rows
def sg (c:Nat):Str:=⟨#[c]⟩
def Its (z:Str):It:=⟨fun i _=>i<z.length,fun i H x H'=>H'=H/\∃ c,z.cps.toList[i]? = some c/\x = .str (sg c),fun i _=>z.length<=i⟩
theorem zto {P:Program} {w:World} {K:PySem.W.Frag} {tg:Expr} (it:Addr) (z:Str) (t:Tok) (ty:String) (hty:ty = "str_ascii_iterator" \/ ty = "str_iterator"):Turn P w K tg (Its z) [it] it (fun i h=>h.IsStrIter it ty z t i) where
 mem:=by simp
 obj:=fun i h st b hb=>by
  have e:b=it:=by simpa using hb
  subst e
  obtain ⟨o,e,c,d⟩:=st
  exact ⟨o,e,fun v z=>by rw [d] at z; cases z⟩
 keep:=fun i h h' st k=>by
  obtain ⟨o,e,r⟩:=st
  exact ⟨o,k it (by simp) o e,r⟩
 item:=by
  intro X hP hw hK hc i pins s σ H E I hf st hg
  subst hP hw hK
  obtain ⟨f0,f1,f2,f3,f4,f5⟩:=hf it (by simp)
  have hg:i<z.cps.size:=hg
  have W:Walks X.prog X.w X.A it [it] [it] z.cps.size (SignAt z) (fun i h=>h.IsStrIter it ty z t i):=by
   rcases hty with rfl | rfl
   ·exact Walks.strAscii (I.ok.hd hc) it z t
   ·exact Walks.strWide (I.ok.hd hc) it z t
  refine W.item i s _ _ hg st fun v h' tk hv st' kk=>?_
  obtain ⟨c,u,hc1,rfl⟩:=hv
  have I1:Inv X pins σ H { s with heap:=h',toks:=tk }:=I.turned (fun b o hb e=>kk b o (by simpa using hb) e) f0 f1 f3 f4 f5
  obtain ⟨o,e,c1,d⟩:=id st'
  refine ⟨_,rfl,go_of (s:={ s with heap:=h',toks:=tk }) e c1 d (by rcases hty with rfl | rfl <;> decide) ⟨.str (sg c),H,I1,⟨u,rfl⟩,⟨rfl,c,by rw [Array.getElem?_toList]; exact hc1,rfl⟩,st',fun b hb=>(hf b hb).1⟩⟩
 done:=by
  intro X hP hw hK hc i pins s σ H E I hf st hg
  subst hP hw hK
  obtain ⟨f0,f1,f2,f3,f4,f5⟩:=hf it (by simp)
  have hg:z.cps.size<=i:=hg
  rcases hty with rfl | rfl
  ·exact wpAny_pyNext_ascii_end (I.ok.hd hc) st (by simpa using hg) fun h' eb=>⟨rfl,I.turned (t':=s.toks) (fun b o hb e=>eb b o hb e) f0 f1 f3 f4 f5⟩
  ·exact wpAny_pyNext_wide_end (I.ok.hd hc) st (by simpa using hg) fun h' eb=>⟨rfl,I.turned (t':=s.toks) (fun b o hb e=>eb b o hb e) f0 f1 f3 f4 f5⟩
 self:=fun _ _ _ _ _ st h=>by
  rcases hty with rfl | rfl
  ·exact wpAny_pyIter_striter_ascii st h
  ·exact wpAny_pyIter_striter_wide st h
section
variable {X:Cx} {tg:Expr}
def iStr (tl:TE):TI:=fun σ H R=>tl σ H fun x H1=>∃ z,x = .str z/\R (Its z) H1
theorem zxx {l:Expr} {tl:TE} (hl:PE X l tl):PI X tg l (iStr tl):=by
 intro pins s σ H R I h
 refine thn (hl pins s σ H _ I h) fun v s1 ⟨x,H1,I1,r1,q1⟩=>?_
 obtain ⟨z,rfl,q⟩:=q1
 obtain ⟨t,rfl⟩:=r1
 have fin:∀ ty,(ty = "str_ascii_iterator" \/ ty = "str_iterator")->PIE X pins σ tg R (.ref s1.heap.objs.size) { s1 with heap:=s1.heap.push { cls:=.type ty,data:=.fields #[.str z t,.int 0 0] } }:=fun ty hty=>by
  refine ⟨s1.heap.objs.size,[s1.heap.objs.size],_,_,H1,rfl,I1.kept (t':=s1.toks) fun b o e=>Heap.get?_push_of_some _ e,zto _ z t ty hty,⟨_,Heap.get?_push_size _ rfl,rfl,rfl⟩,fun b hb=>?_,q⟩
  have e:b=s1.heap.objs.size:=by simpa using hb
  subst e
  exact I1.fpOk (Nat.le_refl _) (I1.hok.fresh (Nat.le_refl _))
 cases ha:z.cps.all (· < 128)
 ·exact wpAny_pyIter_wide ha (fin _ (.inr rfl))
 ·exact wpAny_pyIter_ascii ha (fin _ (.inl rfl))
end
theorem ztp {z:Str} {g:TG} {tc:TT} {te:TE} {D:Addr} {τ:St} {H:Hp} {Q:VK} (Pv:Nat->St->Hp->Prop) (h0:Pv 0 τ H)
    (hs:∀ i c τ H,z.cps.toList[i]? = some c->Pv i τ H->g (.str (sg c)) τ H fun τ2 H3=>tc τ2 H3 fun b H4=>if b=true then te τ2 H4 fun y H5=>∃ ys,H5 D=some (.lst ys)/\ys.length<sizeLine/\Pv (i+1) τ2 (upd H5 D (.lst (ys++[y]))) else Pv (i+1) τ2 H4)
    (hd:∀ τ H,Pv z.length τ H->Q (.ref D) H):CompG (Its z) g tc te D τ H Q:=by
  refine ⟨fun i m τ H=>m=z.length-i/\i<=z.length/\Pv i τ H,⟨z.length,by simp,Nat.zero_le _,h0⟩,?_⟩
  rintro i m τ H ⟨rfl,hi,p⟩
  by_cases hlt:i<z.length
  · refine .inr ⟨hlt,Pv (i+1),fun τ' H' p'=>⟨z.length-(i+1),by omega,rfl,hlt,p'⟩,fun x H' y=>?_⟩
    obtain ⟨e,c,hc,y⟩:=y
    subst e y
    exact hs i c τ H' hc p
  · have:i=z.length:=by omega
    subst this
    exact .inl ⟨Nat.le_refl _,hd _ _ p⟩
section
variable {X:Cx}
def rInS:R2:=fun x y H Q=>∃ z w,x = .str z/\y = .str w/\Q (.bl (Txt.contains w z)) H
theorem zxy:OpR X (compareOp .In) rInS:=by
 intro pins s σ H x y v u Q I rx ry h
 obtain ⟨z,w,rfl,rfl,q⟩:=h
 obtain ⟨t,rfl⟩:=rx
 obtain ⟨t',rfl⟩:=ry
 exact SB.contains ⟨.bl _,H,I,rfl,q⟩
end
end L2
namespace L2
open PySem PySem.Spec PyProof.Rows
theorem zgd {X:Cx} {x z:Str} {pos:Pos} (hg:Gl X x) (hm:∃ t,X.mg x=some (.str z t)) (hd:(x == ("__debug__" : Str))=false:=by decide):PE X (.Name x pos) (tC (.str z)):=by
 obtain ⟨t,hm⟩:=hm
 exact zfi hg hm ⟨t,rfl⟩ hd
end L2
namespace L2
open PySem PySem.Spec PyProof.Rows
section
variable {M:Model} {A:Around} {E:Value->Shared->Prop} {s:Shared} {B:Heap} {env:Env} {outer:List Env} {L e:Addr} {cls:Value} {dct:Option Addr}
end
section
variable {X:Cx} {pins:List (Addr×Obj)} {σ:St} {H H':Hp} {s:Shared} {h':Heap}
end
section
variable {P:Program} {w:World} {X:Cx} {scope:Scope} {cl:List (Str×Addr)} {N:List Str} {Ek:XH} {fp:List Addr} {s s':Shared} {H H':Hp} {pins:List (Addr×Obj)} {τ:St}
end
section
variable {P:Program} {w:World} {K:PySem.W.Frag} {mg:Str->Option Value} {base:Heap} {N:List Str} {qual:Str} {sc:Scope} {f:Addr} {cd:Value} {A:Around} {outer:List Env} {s₀:Shared} {H₀:Hp} {E:XK}
end
end L2
namespace Sw
open PySem L2
def figs:Str:=Str.ofString "0123456789"
theorem in_str (x:Str) (c:Nat):Txt.contains x (sg c)=decide (c∈x.cps.toList):=StrLaws.found_one x c
theorem len_list (x:Str):x.cps.toList.length=x.length:=Array.length_toList
def zur (z:Str):Prop:=z.cps.toList[0]? = some 48/\1<z.length
def Digs (z:Str):Prop:=∀ c∈z.cps.toList,c∈figs.cps.toList
instance (z:Str):Decidable (zur z):=by unfold zur; exact inferInstance
instance (z:Str):Decidable (Digs z):=by unfold Digs; exact inferInstance
def N13 (n:Int):Prop:=0<=n/\n<10000000000000
def N4 (q:Q4):Prop:=N13 q.1/\N13 q.2.1/\N13 q.2.2.1/\N13 q.2.2.2
end Sw
namespace PySem
open Sem (wp)
open Builtin Builtin.Str Builtin.Int
namespace F
end F
section
variable {prog:Program} {w:World} {A:Around} {E:Value->Shared->Prop} {s:Shared} {I:Addr} {fp wr:List Addr} {G:Array GenState->Array GenState->Prop} {n:Nat} {P:Nat->Value->Prop} {St:Nat->Shared->Prop}
end
end PySem
namespace L2
open PySem PySem.Spec PyProof.Rows
section
variable {X:Cx}
end
section
variable {X:Cx}
end
end L2
namespace Sw
open PySem L2 PyProof.Rows
def Below (h:Str):Prop:=h.cps.toList[0]? = some 45
instance (h:Str):Decidable (Below h):=by unfold Below; exact inferInstance
end Sw
namespace L2
open PySem PySem.Spec PyProof.Rows
end L2
namespace Sw
open PySem L2 PyProof.Rows
abbrev dg (n:Nat):List Char:=Nat.toDigits 10 n
end Sw
namespace L2
open PySem PySem.Spec PyProof.Rows
section
variable {X:Cx}
end
end L2
namespace L2
open PySem PySem.Spec PyProof.Rows PySem.MeetsSeq
section
variable {X:Cx}
end
end L2
namespace L2
open PySem PySem.Spec PyProof.Rows
section
variable {X:Cx}
end
def iVals (tl:TE):TI:=fun σ H R=>tl σ H fun x H1=>∃ a kvs,x = .ref a/\H1 a=some (.dK kvs)/\∀ o,R (Itva a o kvs) (upd H1 a (.frz o (.dK kvs)))
section
variable {X:Cx}
theorem zvz {o:Expr} {apos cpos:Pos} {tg:Expr} {tl:TE} (hl:PE X o tl) (hbase:attributeBase o "values" X.env (eval o X.env)=eval o X.env:=by rfl) (hline:(apos.endLine == cpos.line)=true:=by rfl) :
    PI X tg (.Call (.Attribute o "values" apos) [] [] cpos) (iVals tl):=by
  intro pins s σ H R I h
  refine wpAny_Call_method0_late hbase hline (thn (hl pins s σ H _ I h) fun v s1 ⟨x,H1,I1,r1,a,kvs,ex,ha,hall⟩=>?_)
  subst ex
  obtain rfl:v=Value.ref a:=r1
  obtain ⟨t1,t2,_⟩:=zsa I1 (.inl ⟨kvs,.inl ha⟩)
  obtain ⟨z,hd,vs,rel,o',es,ep,ho,hx⟩:=dk_of I1.hok ha
  refine ⟨"dict", "dict.values", PySem.F.plainAttrs_dict,PySem.F.slot_dict_values,PySem.F.type_dict_values,t1,t2,Calls.callWith_builtin rfl (PySem.evalArgs_none ?_)⟩
  refine call_meetsIn PySem.F.slot_dict_values t1 PySem.F.entry_dict_values (PySem.F.args_dict_values_1 _) (meets_dict_values (zbf X.prog X.w) a hd) ⟨⟨vs,o',es,ep,ho,hx⟩,?_⟩
  have Iv:Inv X pins σ H1 { s1 with heap:=s1.heap.push { cls:=.type "dict_values", data:=.fields #[.ref a] } }:=I1.kept (t':=s1.toks) fun b o e=>Heap.get?_push_of_some _ e
  have hov:(s1.heap.push { cls:=.type "dict_values", data:=.fields #[.ref a] }).get? a=some o':=Heap.get?_push_of_some _ ho
  have hvw:(s1.heap.push { cls:=.type "dict_values", data:=.fields #[.ref a] }).IsValuesView s1.heap.objs.size a:=⟨_,Heap.get?_push_size _ rfl,rfl,rfl⟩
  generalize s1.heap.push { cls:=.type "dict_values", data:=.fields #[.ref a] } = hv at Iv hov hvw ⊢
  refine wpAny_pyIter_values (s:={ s1 with heap:=hv }) (knd:=zbf X.prog X.w) hvw ⟨o',es,hov,hx⟩ ?_
  have fresh:H1 hv.objs.size=none:=Iv.hok.fresh (Nat.le_refl _)
  have na:hv.objs.size≠a:=fun y=>by rw [y,ha] at fresh; cases fresh
  have I2:Inv X pins σ (upd H1 a (.frz o' (.dK kvs))) { s1 with heap:=hv.push { cls:=.type "dict_valueiterator", data:=.fields #[.ref a,.int 0 0,.int vs.length 0,.int ep 0] } } :=
    (Iv.kept (t':=s1.toks) fun b o e=>Heap.get?_push_of_some _ e).frozen ha (Heap.get?_push_of_some _ hov)
  refine ⟨hv.objs.size,[hv.objs.size],_,_,_,rfl,I2,zoc a _ rel hx,⟨_,Heap.get?_push_size _ rfl,rfl,rfl⟩,fun b hb=>?_,hall o'⟩
  have e:b=hv.objs.size:=by simpa using hb
  subst e
  have fp1:=Iv.fpOk (Nat.le_refl _) fresh
  exact ⟨by rw [zai na]; exact fresh,fp1.2⟩
end
theorem zsf {a:Addr} {kvs:List (Key×V)} {o:Obj} {g:TG} {tc:TT} {te:TE} {D:Addr} {τ:St} {H:Hp} {Q:VK} (Pv:Nat->St->Hp->Prop) (h0:Pv 0 τ H) (hz:∀ i τ H,i<=kvs.length->Pv i τ H->H a=some (.frz o (.dK kvs)))
    (hs:∀ i kv τ H,kvs[i]? = some kv->Pv i τ H->g kv.2 τ H fun τ2 H3=>tc τ2 H3 fun b H4=>if b=true then te τ2 H4 fun y H5=>∃ ys,H5 D=some (.lst ys)/\ys.length<sizeLine/\Pv (i+1) τ2 (upd H5 D (.lst (ys++[y]))) else Pv (i+1) τ2 H4)
    (hd:∀ τ H,Pv kvs.length τ H->Q (.ref D) H):CompG (Itva a o kvs) g tc te D τ H Q:=by
  refine ⟨fun i m τ H=>m=kvs.length-i/\i<=kvs.length/\Pv i τ H,⟨kvs.length,by simp,Nat.zero_le _,h0⟩,?_⟩
  rintro i m τ H ⟨rfl,hi,p⟩
  have q:=hz i τ H hi p
  by_cases hlt:i<kvs.length
  · refine .inr ⟨⟨hlt,q⟩,Pv (i+1),fun τ' H' p'=>⟨kvs.length-(i+1),by omega,rfl,hlt,p'⟩,fun x H2 z=>?_⟩
    obtain ⟨rfl,kv,hkv,rfl⟩:=z
    exact hs i kv τ _ hkv p
  · have e:i=kvs.length:=by omega
    subst e
    exact .inl ⟨⟨Nat.le_refl _,q⟩,hd τ H p⟩
end L2
namespace L2
open PySem PySem.Spec PyProof.Rows
structure Gnm (nm:Nm):Prop where
 nd:(nm.map (·.1)).Nodup
 sh:∀ x s,shOf nm x=some s->1<=s/\s<=1000000
 ok:∀ y∈nm.map (·.1),PyData.strOk y=true
theorem Gnm.nil:Gnm []:=⟨.nil,fun x s e=>by (cases e),fun y h=>absurd h List.not_mem_nil⟩
theorem Gnm.put {nm:Nm} (h:Gnm nm) {x:Str} {s:Int} (hx:shOf nm x=none) (s0:1<=s) (s1:s<=1000000) (ok:PyData.strOk x=true):Gnm (nm++[(x,s)]):=by
 refine ⟨?_,fun y t e=>?_,fun y hy=>?_⟩
 ·rw [List.map_append]
  exact List.nodup_append.mpr ⟨h.nd,by simp,fun y hy z hz=>by
   have:z=x:=by simpa using hz
   rw [this]
   intro e
   exact (Sw.sh_none.mp hx) (e ▸ hy)⟩
 ·rw [zgz hx] at e
  split at e
  ·cases e; exact ⟨s0,s1⟩
  ·exact h.sh y t e
 ·rw [List.map_append] at hy
  rcases List.mem_append.mp hy with z | z
  ·exact h.ok y z
  ·have:y=x:=by simpa using z
   rw [this]; exact ok
theorem Gnm.resh {nm:Nm} (h:Gnm nm) {x:Str} {s:Int} (s0:1<=s) (s1:s<=1000000):Gnm (putN nm x s):=by
 refine ⟨?_,fun y t e=>?_,fun y hy=>?_⟩
 ·rw [Sw.fst_put]; exact h.nd
 ·rw [zgy] at e
  split at e
  ·cases e':shOf nm y with
   | none=>rw [e'] at e; cases e
   | some v=>rw [e'] at e; cases e; exact ⟨s0,s1⟩
  ·exact h.sh y t e
 ·rw [Sw.fst_put] at hy; exact h.ok y hy
inductive CSt
 | st (nm:Nm) (tg gs:Str->Option Rat) (ck:Rat) (ch:V) (N:Nat)
 | rd (nm:Nm) (q:List Str) (rs:Nm) (tu:Option Str) (ch:V)
def CSt.nm:CSt->Nm
 | .st nm _ _ _ _ _=>nm
 | .rd nm _ _ _ _=>nm
def CSt.sz:CSt->Nat
 | .st _ _ _ _ _ N=>N
 | .rd nm _ _ _ _=>nm.length
def CSt.Ok (m:Int):CSt->Prop
 | .st nm tg gs _ _ _=>Gnm nm/\∀ x,shOf nm x≠none->∃ t g,tg x=some t/\gs x=some g
 | .rd nm q rs tu _=>Gnm nm/\Sw.RI m nm q rs tu
theorem CSt.Ok.gnm {m:Int}:∀ {c:CSt},c.Ok m->Gnm c.nm
 | .st ..,h=>h.1
 | .rd ..,h=>h.1
def CSt.put (x:Str) (s:Int):CSt->CSt
 | .st nm tg gs ck ch N=>.st (nm++[(x,s)]) (setS tg x 0) (setS gs x 0) ck ch (N+3)
 | .rd nm q rs tu ch=>.rd (nm++[(x,s)]) (q++[x]) (rs++[(x,0)]) tu ch
def CSt.resh (m:Int) (x:Str) (s:Int):CSt->CSt
 | .st nm tg gs ck ch N=>.st (putN nm x s) tg gs ck ch N
 | .rd nm q rs tu ch=>.rd (putN nm x s) q (putN rs x (if s*m<(shOf rs x).getD 0 then s*m else (shOf rs x).getD 0)) tu ch
def CSt.new (rounds:Bool):CSt:=if rounds then .rd [] [] [] none .non else .st [] (fun _=>none) (fun _=>none) 0 .non 0
theorem CSt.nm_put {x:Str} {s:Int} (c:CSt):(c.put x s).nm=c.nm++[(x,s)]:=by cases c <;> rfl
theorem CSt.nm_resh {m:Int} {x:Str} {s:Int} (c:CSt):(c.resh m x s).nm=putN c.nm x s:=by cases c <;> rfl
theorem CSt.nm_new (b:Bool):(CSt.new b).nm = []:=by cases b <;> rfl
def ChS (cS cR cM:Addr) (H:Hp) (a:At5) (m:Int):CSt->Prop
 | .st nm tg gs ck ch N=>Sx cS cM H a m nm tg gs ck ch N
 | .rd nm q rs tu ch=>Rx cR cM H a m nm q rs tu ch
def five (a:At5):List Addr:=[a.p,a.pm,a.ps,a.pt,a.pg]
theorem mem_five {a:At5} {b:Addr}:b∈five a↔b=a.p\/b=a.pm\/b=a.ps\/b=a.pt\/b=a.pg:=by
 unfold five; simp
section
variable {cS cR cM:Addr} {H H':Hp} {a:At5} {m:Int} {c:CSt}
theorem ChS.keep (h:ChS cS cR cM H a m c) (e:∀ b o,(b∈five a\/∃ xs,H b=some (.tup xs))->H b=some o->H' b=some o):ChS cS cR cM H' a m c:=by
 have e1:∀ b o,(b=a.p\/b=a.pm\/b=a.ps\/b=a.pt\/b=a.pg\/∃ xs,H b=some (.tup xs))->H b=some o->H' b=some o:=fun b o hb=>e b o (by
  rcases hb with z | z | z | z | z | z
  ·exact .inl (mem_five.mpr (.inl z))
  ·exact .inl (mem_five.mpr (.inr (.inl z)))
  ·exact .inl (mem_five.mpr (.inr (.inr (.inl z))))
  ·exact .inl (mem_five.mpr (.inr (.inr (.inr (.inl z)))))
  ·exact .inl (mem_five.mpr (.inr (.inr (.inr (.inr z)))))
  ·exact .inr z)
 cases c with
 | st nm tg gs ck ch N =>
  have S:Sx cS cM H a m nm tg gs ck ch N:=h
  obtain ⟨dx,fs,pr,h1,h2,h3⟩:=S.ex
  obtain ⟨dm,fm,m1,m2,m3,m4⟩:=S.mb.ex
  exact ⟨⟨dx,fs,pr,e1 _ _ (.inl rfl) h1,h2,e1 _ _ (.inr (.inr (.inr (.inr (.inr ⟨_,h3⟩))))) h3⟩,⟨⟨dm,fm,e1 _ _ (.inr (.inl rfl)) m1,m2,m3,m4⟩,e1 _ _ (.inr (.inr (.inl rfl))) S.mb.hs⟩,
   S.dt.keep fun b o hb=>e1 b o (hb.elim (fun z=>.inr (.inr (.inr (.inl z)))) fun z=>.inr (.inr (.inr (.inr (.inr z))))),S.dg.keep fun b o hb=>e1 b o (hb.elim (fun z=>.inr (.inr (.inr (.inr (.inl z))))) fun z=>.inr (.inr (.inr (.inr (.inr z))))),S.nl,S.n1,S.n2,S.n3,S.n4⟩
 | rd nm q rs tu ch =>
  have S:Rx cR cM H a m nm q rs tu ch:=h
  obtain ⟨dx,fs,h1,h2⟩:=S.ex
  obtain ⟨dm,fm,m1,m2,m3,m4⟩:=S.mb.ex
  exact ⟨⟨dx,fs,e1 _ _ (.inl rfl) h1,h2⟩,⟨⟨dm,fm,e1 _ _ (.inr (.inl rfl)) m1,m2,m3,m4⟩,e1 _ _ (.inr (.inr (.inl rfl))) S.mb.hs⟩,e1 _ _ (.inr (.inr (.inr (.inl rfl)))) S.hq,e1 _ _ (.inr (.inr (.inr (.inr (.inl rfl))))) S.hr,S.n3,S.n4⟩
theorem ChS.at (h:ChS cS cR cM H a m c) {b:Addr} (hb:b∈five a):∃ o,H b=some o/\∀ xs,o≠.tup xs:=by
 cases c with
 | st nm tg gs ck ch N =>
  have S:Sx cS cM H a m nm tg gs ck ch N:=h
  obtain ⟨dx,fs,pr,h1,h2,h3⟩:=S.ex
  obtain ⟨dm,fm,m1,_⟩:=S.mb.ex
  obtain ⟨kt,t1,_⟩:=S.dt.ex
  obtain ⟨kg,g1,_⟩:=S.dg.ex
  rcases mem_five.mp hb with z | z | z | z | z <;> subst z
  ·exact ⟨_,h1,by intro xs y; cases y⟩
  ·exact ⟨_,m1,by intro xs y; cases y⟩
  ·exact ⟨_,S.mb.hs,by intro xs y; cases y⟩
  ·exact ⟨_,t1,by intro xs y; cases y⟩
  ·exact ⟨_,g1,by intro xs y; cases y⟩
 | rd nm q rs tu ch =>
  have S:Rx cR cM H a m nm q rs tu ch:=h
  obtain ⟨dx,fs,h1,h2⟩:=S.ex
  obtain ⟨dm,fm,m1,_⟩:=S.mb.ex
  rcases mem_five.mp hb with z | z | z | z | z <;> subst z
  ·exact ⟨_,h1,by intro xs y; cases y⟩
  ·exact ⟨_,m1,by intro xs y; cases y⟩
  ·exact ⟨_,S.mb.hs,by intro xs y; cases y⟩
  ·exact ⟨_,S.hq,by intro xs y; cases y⟩
  ·exact ⟨_,S.hr,by intro xs y; cases y⟩
end
theorem ChS.nodup {cS cR cM:Addr} {H:Hp} {a:At5} {m:Int} {c:CSt} (h:ChS cS cR cM H a m c):(five a).Nodup:=by
 have go:a.p≠a.pm->a.p≠a.ps->a.p≠a.pt->a.p≠a.pg->a.pm≠a.ps->a.pm≠a.pt->a.pm≠a.pg->a.ps≠a.pt->a.ps≠a.pg->a.pt≠a.pg->(five a).Nodup:=by
  intro h1 h2 h3 h4 h5 h6 h7 h8 h9 h10
  unfold five
  simp [h1,h2,h3,h4,h5,h6,h7,h8,h9,h10]
 cases c with
 | st nm tg gs ck ch N =>
  have S:Sx cS cM H a m nm tg gs ck ch N:=h
  obtain ⟨dx,fs,pr,h1,h2,h3⟩:=S.ex
  obtain ⟨dm,fm,m1,_⟩:=S.mb.ex
  obtain ⟨kt,t1,_⟩:=S.dt.ex
  obtain ⟨kg,g1,_⟩:=S.dg.ex
  exact go S.n4 (ne_of h1 S.mb.hs (by intro z; cases z)) (ne_of h1 t1 (by intro z; cases z)) (ne_of h1 g1 (by intro z; cases z)) (ne_of m1 S.mb.hs (by intro z; cases z)) (ne_of m1 t1 (by intro z; cases z)) (ne_of m1 g1 (by intro z; cases z)) S.n2.symm S.n3.symm S.n1
 | rd nm q rs tu ch =>
  have S:Rx cR cM H a m nm q rs tu ch:=h
  obtain ⟨dx,fs,h1,h2⟩:=S.ex
  obtain ⟨dm,fm,m1,_⟩:=S.mb.ex
  exact go S.n4 (ne_of h1 S.mb.hs (by intro z; cases z)) (ne_of h1 S.hq (by intro z; cases z)) (ne_of h1 S.hr (by intro z; cases z)) (ne_of m1 S.mb.hs (by intro z; cases z)) (ne_of m1 S.hq (by intro z; cases z)) (ne_of m1 S.hr (by intro z; cases z)) (ne_of S.mb.hs S.hq (by intro z; cases z)) S.n3.symm (ne_of S.hq S.hr (by intro z; cases z))
section
variable {m:Int} {c:CSt} {x:Str} {s:Int}
theorem CSt.Ok.put (h:c.Ok m) (hx:shOf c.nm x=none) (s0:1<=s) (s1:s<=1000000) (ok:PyData.strOk x=true):(c.put x s).Ok m:=by
 cases c with
 | st nm tg gs ck ch N =>
  refine ⟨h.1.put hx s0 s1 ok,fun y hy=>?_⟩
  unfold setS
  by_cases e:y=x
  ·rw [if_pos e,if_pos e]; exact ⟨_,_,rfl,rfl⟩
  ·have hx:shOf nm x=none:=hx
   rw [zgz hx,if_neg e] at hy
   rw [if_neg e,if_neg e]; exact h.2 y hy
 | rd nm q rs tu ch=>exact ⟨h.1.put hx s0 s1 ok,h.2.put hx s0 s1⟩
theorem CSt.Ok.resh (h:c.Ok m) (hx:shOf c.nm x≠none) (s0:1<=s) (s1:s<=1000000):(c.resh m x s).Ok m:=by
 cases c with
 | st nm tg gs ck ch N =>
  refine ⟨h.1.resh s0 s1,fun y hy=>h.2 y fun z=>hy ?_⟩
  rw [zgy,z]
  split <;> rfl
 | rd nm q rs tu ch =>
  refine ⟨h.1.resh s0 s1,?_⟩
  have:shOf rs x≠none:=by
   have hx:shOf nm x≠none:=hx
   rw [Sw.sh_mem] at hx ⊢
   rw [h.2.ks]; exact hx
  cases e:shOf rs x with
  | none=>exact absurd e this
  | some r =>
   exact h.2.resh hx e s0 s1
theorem CSt.Ok.new (h:1<=m) (b:Bool):(CSt.new b).Ok m:=by
 cases b with
 | true=>exact ⟨Gnm.nil,.nil h⟩
 | false=>exact ⟨Gnm.nil,fun y hy=>absurd rfl hy⟩
end
def Deed (S:List Addr) (H H':Hp):Prop:=∀ b o,b ∉ S->H b=some o->H' b=some o
theorem Same.deed {S:List Addr} {H H':Hp} (h:Same H H'):Deed S H H':=fun b o _ e=>h b o e
theorem Deed.trans {S:List Addr} {H H1 H2:Hp} (x:Deed S H H1) (y:Deed S H1 H2):Deed S H H2:=fun b o n e=>y b o n (x b o n e)
theorem Deed.mono {S S':List Addr} {H H1:Hp} (x:Deed S H H1) (h:∀ b∈S,b∈S'):Deed S' H H1:=fun b o n e=>x b o (fun z=>n (h b z)) e
theorem Own.deed {a:At5} {H H':Hp} (w:Own a H H'):Deed (five a) H H':=fun b o n e=>by
 rw [mem_five] at n
 exact w b o (fun z=>n (.inl z)) (fun z=>n (.inr (.inr (.inl z)))) (fun z=>n (.inr (.inr (.inr (.inl z))))) (fun z=>n (.inr (.inr (.inr (.inr z))))) e
structure FN (fs:List (Str×V)) (ab ch rm bk:V) (ql:Addr):Prop where
 ab:fs.lookup ("above" : Str)=some ab
 ch:fs.lookup ("chooser" : Str)=some ch
 rm:fs.lookup ("room" : Str)=some rm
 bk:fs.lookup ("bucket" : Str)=some bk
 qu:fs.lookup ("queue" : Str)=some (.ref ql)
 no:∀ m:Str,¬ m = "above" -> ¬ m = "chooser" -> ¬ m = "room" -> ¬ m = "bucket" -> ¬ m = "queue" -> fs.lookup m=none
 len:fs.length<900
theorem FN.mk0 (ab ch rm bk:V) (ql:Addr):FN (putF "queue" (.ref ql) (putF "bucket" bk (putF "room" rm (putF "chooser" ch (putF "above" ab []))))) ab ch rm bk ql:=by
 refine ⟨?_,?_,?_,?_,?_,fun m h1 h2 h3 h4 h5=>?_,?_⟩
 ·rw [zal (by decide +kernel),zal (by decide +kernel),zal (by decide +kernel),zal (by decide +kernel),zbw]
 ·rw [zal (by decide +kernel),zal (by decide +kernel),zal (by decide +kernel),zbw]
 ·rw [zal (by decide +kernel),zal (by decide +kernel),zbw]
 ·rw [zal (by decide +kernel),zbw]
 ·rw [zbw]
 ·rw [zal h5,zal h4,zal h3,zal h2,zal h1]; rfl
 ·have l1:=zan (fs:=[]) (f := "above") (v:=ab)
  have l2:=zan (fs:=putF "above" ab []) (f := "chooser") (v:=ch)
  have l3:=zan (fs:=putF "chooser" ch (putF "above" ab [])) (f := "room") (v:=rm)
  have l4:=zan (fs:=putF "room" rm (putF "chooser" ch (putF "above" ab []))) (f := "bucket") (v:=bk)
  have l5:=zan (fs:=putF "bucket" bk (putF "room" rm (putF "chooser" ch (putF "above" ab [])))) (f := "queue") (v:=.ref ql)
  simp only [List.length_nil] at l1
  omega
theorem FN.put_bk {fs:List (Str×V)} {ab ch rm bk bk':V} {ql:Addr} (h:FN fs ab ch rm bk ql):FN (putF "bucket" bk' fs) ab ch rm bk' ql:=by
 refine ⟨?_,?_,?_,zbw,?_,fun m h1 h2 h3 h4 h5=>?_,?_⟩
 ·rw [zal (by decide +kernel)]; exact h.ab
 ·rw [zal (by decide +kernel)]; exact h.ch
 ·rw [zal (by decide +kernel)]; exact h.rm
 ·rw [zal (by decide +kernel)]; exact h.qu
 ·rw [zal h4]; exact h.no m h1 h2 h3 h4 h5
 ·rw [zkr h.bk]; exact h.len
structure BkS where
 d:Int
 r:Rat
 s:Int
 l:Rat
structure ND where
 nm:Str
 p:Addr
 ql:Addr
 ab:Option Str
 ch:Option (At5×CSt)
 rm:V
 bk:Option (Addr×BkS)
 ps:List Addr
 qu:List D2
structure Cl where
 n:Addr
 s:Addr
 r:Addr
 m:Addr
 b:Addr
 t:Addr
def chF:Option (At5×CSt)->List Addr
 | none=>[]
 | some c=>five c.1
def bkF:Option (Addr×BkS)->List Addr
 | none=>[]
 | some b=>[b.1]
def ND.foot (x:ND):List Addr:=x.p :: x.ql :: (chF x.ch++bkF x.bk)
def chV:Option (At5×CSt)->V
 | none=>.non
 | some c=>.ref c.1.p
def bkV:Option (Addr×BkS)->V
 | none=>.non
 | some b=>.ref b.1
structure NdOk (C:Cl) (H:Hp) (m:Int) (x:ND):Prop where
 ex:∃ dx fs,H x.p=some (.ins C.n dx fs)/\FN fs (optS x.ab) (chV x.ch) x.rm (bkV x.bk) x.ql
 qu:Gos H x.ql x.ps x.qu
 ch:∀ c,x.ch=some c->ChS C.s C.r C.m H c.1 m c.2
 bk:∀ b,x.bk=some b->Bk C.b H b.1 b.2.d b.2.r b.2.s b.2.l
section
variable {C:Cl} {H H':Hp} {m:Int} {x:ND}
theorem NdOk.keep (h:NdOk C H m x) (e:∀ b o,(b∈x.foot\/∃ xs,H b=some (.tup xs))->H b=some o->H' b=some o):NdOk C H' m x:=by
 obtain ⟨dx,fs,h1,h2⟩:=h.ex
 refine ⟨⟨dx,fs,e _ _ (.inl (List.mem_cons_self ..)) h1,h2⟩,⟨e _ _ (.inl (List.mem_cons_of_mem _ (List.mem_cons_self ..))) h.qu.hl,h.qu.r.keep fun p z hp=>e _ _ (.inr ⟨_,hp⟩) hp⟩,fun c hc=>?_,fun b hb=>?_⟩
 ·refine (h.ch c hc).keep fun b o hb=>e b o (hb.imp (fun z=>?_) id)
  refine List.mem_cons_of_mem _ (List.mem_cons_of_mem _ (List.mem_append.mpr (.inl ?_)))
  rw [hc]; exact z
 ·obtain ⟨dx',fs',pr,pl,b1,b2,b3,b4⟩:=(h.bk b hb).ex
  refine ⟨dx',fs',pr,pl,e _ _ (.inl ?_) b1,b2,e _ _ (.inr ⟨_,b3⟩) b3,e _ _ (.inr ⟨_,b4⟩) b4⟩
  refine List.mem_cons_of_mem _ (List.mem_cons_of_mem _ (List.mem_append.mpr (.inr ?_)))
  rw [hb]; exact List.mem_singleton.mpr rfl
theorem NdOk.at (h:NdOk C H m x) {b:Addr} (hb:b∈x.foot):∃ o,H b=some o/\∀ xs,o≠.tup xs:=by
 unfold ND.foot at hb
 rcases List.mem_cons.mp hb with z | hb
 ·obtain ⟨dx,fs,h1,h2⟩:=h.ex
  subst z
  exact ⟨_,h1,by intro xs y; cases y⟩
 rcases List.mem_cons.mp hb with z | hb
 ·subst z
  exact ⟨_,h.qu.hl,by intro xs y; cases y⟩
 rcases List.mem_append.mp hb with z | z
 ·cases hc:x.ch with
  | none=>rw [hc] at z; cases z
  | some c=>rw [hc] at z; exact (h.ch c hc).at z
 ·cases hc:x.bk with
  | none=>rw [hc] at z; cases z
  | some c =>
   rw [hc] at z
   obtain ⟨dx',fs',pr,pl,b1,_⟩:=(h.bk c hc).ex
   have:b=c.1:=List.mem_singleton.mp z
   subst this
   exact ⟨_,b1,by intro xs y; cases y⟩
theorem NdOk.deed {S:List Addr} (h:NdOk C H m x) (d:Deed S H H') (f:∀ b∈x.foot,b ∉ S) (nt:∀ b∈S,∀ xs,H b≠some (.tup xs)):NdOk C H' m x :=
 h.keep fun b o hb e=>d b o (hb.elim (fun z=>f b z) fun ⟨xs,z⟩ y=>nt b y xs z) e
end
theorem NdOk.new {C:Cl} {H3 H4:Hp} {m:Int} {nm:Str} {x dx ql:Addr} {fs:List (Str×V)} {ab:Option Str} {ch:Option (At5×CSt)} {rm:V} (hx:H3 x=none) (hd:H3 dx=none) (bt:But x (upd (upd H3 dx (.own x)) x (.ins C.n dx [])) H4) (hq:upd (upd H3 dx (.own x)) x (.ins C.n dx []) ql=none) (h1:H4 x=some (.ins C.n dx fs)) (h2:FN fs (optS ab) (chV ch) rm .non ql) (h3:H4 ql=some (.lst [])) (hc:∀ c,ch=some c->ChS C.s C.r C.m H3 c.1 m c.2) :
    Same H3 H4/\NdOk C H4 m ⟨nm,x,ql,ab,ch,rm,none,[],[]⟩/\(ND.foot ⟨nm,x,ql,ab,ch,rm,none,[],[]⟩).Nodup/\H3 ql=none:=by
  have sm:Same H3 H4:=fun b o e=>bt b o (zao e hx) (zdj hx hd _ _ e)
  have nql:ql≠x:=fun z=>by rw [z,zac] at hq; cases hq
  have q3:H3 ql=none:=by
    rw [zai nql] at hq
    by_cases e:ql=dx
    · rw [e,zac] at hq; cases hq
    · rw [zai e] at hq; exact hq
  refine ⟨sm,⟨⟨dx,fs,h1,h2⟩,⟨h3,.nil⟩,fun c e=>(hc c e).keep fun b o _ e=>sm b o e,fun b e=>(by cases e)⟩,?_,q3⟩
  show (x :: ql :: (chF ch++[])).Nodup
  rw [List.append_nil]
  cases ch with
  | none=>simp [chF,nql.symm]
  | some c =>
    have C1:=hc c rfl
    have n1:x ∉ five c.1:=fun z=>by
      obtain ⟨o,ho,_⟩:=C1.at z
      rw [hx] at ho; cases ho
    have n2:ql ∉ five c.1:=fun z=>by
      obtain ⟨o,ho,_⟩:=C1.at z
      rw [q3] at ho; cases ho
    rw [List.nodup_cons,List.nodup_cons]
    exact ⟨by rw [List.mem_cons,not_or]; exact ⟨nql.symm,n1⟩,n2,C1.nodup⟩
structure FTr (fs:List (Str×V)) (m:Int) (pn:Addr) (tm fr ct:Int) (pg:Addr):Prop where
 mo:fs.lookup ("most" : Str)=some (.int m)
 no:fs.lookup ("nodes" : Str)=some (.ref pn)
 ti:fs.lookup ("time" : Str)=some (.int tm)
 fr:fs.lookup ("free" : Str)=some (.int fr)
 co:fs.lookup ("counted" : Str)=some (.int ct)
 go:fs.lookup ("gone" : Str)=some (.ref pg)
 mis:∀ m:Str,¬ m = "most" -> ¬ m = "nodes" -> ¬ m = "time" -> ¬ m = "free" -> ¬ m = "counted" -> ¬ m = "gone" -> fs.lookup m=none
 len:fs.length<900
theorem FTr.mk0 (m:Int) (pn:Addr) (tm fr ct:Int) (pg:Addr):FTr (putF "gone" (.ref pg) (putF "counted" (.int ct) (putF "free" (.int fr) (putF "time" (.int tm) (putF "nodes" (.ref pn) (putF "most" (.int m) [])))))) m pn tm fr ct pg:=by
 refine ⟨?_,?_,?_,?_,?_,?_,fun m h1 h2 h3 h4 h5 h6=>?_,?_⟩
 ·rw [zal (by decide +kernel),zal (by decide +kernel),zal (by decide +kernel),zal (by decide +kernel),zal (by decide +kernel),zbw]
 ·rw [zal (by decide +kernel),zal (by decide +kernel),zal (by decide +kernel),zal (by decide +kernel),zbw]
 ·rw [zal (by decide +kernel),zal (by decide +kernel),zal (by decide +kernel),zbw]
 ·rw [zal (by decide +kernel),zal (by decide +kernel),zbw]
 ·rw [zal (by decide +kernel),zbw]
 ·rw [zbw]
 ·rw [zal h6,zal h5,zal h4,zal h3,zal h2,zal h1]; rfl
 ·have a1:=zan (fs:=[]) (f := "most") (v:=.int m)
  have a2:=zan (fs:=putF "most" (.int m) []) (f := "nodes") (v:=.ref pn)
  have a3:=zan (fs:=putF "nodes" (.ref pn) (putF "most" (.int m) [])) (f := "time") (v:=.int tm)
  have a4:=zan (fs:=putF "time" (.int tm) (putF "nodes" (.ref pn) (putF "most" (.int m) []))) (f := "free") (v:=.int fr)
  have a5:=zan (fs:=putF "free" (.int fr) (putF "time" (.int tm) (putF "nodes" (.ref pn) (putF "most" (.int m) [])))) (f := "counted") (v:=.int ct)
  have a6:=zan (fs:=putF "counted" (.int ct) (putF "free" (.int fr) (putF "time" (.int tm) (putF "nodes" (.ref pn) (putF "most" (.int m) []))))) (f := "gone") (v:=.ref pg)
  simp only [List.length_nil] at a1
  omega
theorem FTr.put_ti {fs:List (Str×V)} {m:Int} {pn:Addr} {tm tm' fr ct:Int} {pg:Addr} (h:FTr fs m pn tm fr ct pg):FTr (putF "time" (.int tm') fs) m pn tm' fr ct pg:=by
 refine ⟨?_,?_,zbw,?_,?_,?_,fun m h1 h2 h3 h4 h5 h6=>?_,?_⟩
 ·rw [zal (by decide +kernel)]; exact h.mo
 ·rw [zal (by decide +kernel)]; exact h.no
 ·rw [zal (by decide +kernel)]; exact h.fr
 ·rw [zal (by decide +kernel)]; exact h.co
 ·rw [zal (by decide +kernel)]; exact h.go
 ·rw [zal h3]; exact h.mis m h1 h2 h3 h4 h5 h6
 ·rw [zkr h.ti]; exact h.len
abbrev D3:=Int×Int×Str
def d3V (g:D3):List V:=[.int g.1,.int g.2.1,.str g.2.2]
structure TD where
 p:Addr
 pn:Addr
 pg:Addr
 most:Int
 tm:Int
 fr:Int
 ct:Int
 ns:List ND
 gp:List Addr
 gs:List D3
def TD.foot (D:TD):List Addr:=D.p :: D.pn :: D.pg :: D.ns.flatMap ND.foot
def ndK (ns:List ND):List (Key×V):=ns.map fun x=>((Sum.inr x.nm:Key),V.ref x.p)
structure TrOk (C:Cl) (H:Hp) (D:TD):Prop where
 ex:∃ dx fs,H D.p=some (.ins C.t dx fs)/\FTr fs D.most D.pn D.tm D.fr D.ct D.pg
 hn:H D.pn=some (.dK (ndK D.ns))
 nd:∀ x∈D.ns,NdOk C H D.most x
 go:H D.pg=some (.lst (D.gp.map V.ref))
 gr:Paired (fun p g=>H p=some (.tup (d3V g))) D.gp D.gs
 fd:D.foot.Nodup
theorem zfd {α β:Type} {R S:α->β->Prop} (h:∀ a b,R a b->S a b):∀ {l:List α} {k:List β},Paired R l k->Paired S l k
 | _,_,.nil=>.nil
 | _,_,.cons a b=>.cons (h _ _ a) (zfd h b)
section
variable {C:Cl} {H H':Hp} {D:TD}
theorem TD.mem_node {x:ND} {b:Addr} (hx:x∈D.ns) (hb:b∈x.foot):b∈D.foot :=
 List.mem_cons_of_mem _ (List.mem_cons_of_mem _ (List.mem_cons_of_mem _ (List.mem_flatMap.mpr ⟨x,hx,hb⟩)))
theorem TrOk.keep (h:TrOk C H D) (e:∀ b o,(b∈D.foot\/∃ xs,H b=some (.tup xs))->H b=some o->H' b=some o):TrOk C H' D:=by
 obtain ⟨dx,fs,h1,h2⟩:=h.ex
 exact ⟨⟨dx,fs,e _ _ (.inl (List.mem_cons_self ..)) h1,h2⟩,e _ _ (.inl (List.mem_cons_of_mem _ (List.mem_cons_self ..))) h.hn,fun x hx=>(h.nd x hx).keep fun b o hb=>e b o (hb.imp (fun z=>TD.mem_node hx z) id),e _ _ (.inl (List.mem_cons_of_mem _ (List.mem_cons_of_mem _ (List.mem_cons_self ..)))) h.go,zfd (fun a b z=>e _ _ (.inr ⟨_,z⟩) z) h.gr,h.fd⟩
theorem TrOk.same (h:TrOk C H D) (s:Same H H'):TrOk C H' D:=h.keep fun b o _ e=>s b o e
theorem TrOk.at (h:TrOk C H D) {b:Addr} (hb:b∈D.foot):∃ o,H b=some o/\∀ xs,o≠.tup xs:=by
 unfold TD.foot at hb
 rcases List.mem_cons.mp hb with z | hb
 ·obtain ⟨dx,fs,h1,h2⟩:=h.ex
  subst z; exact ⟨_,h1,by intro xs y; cases y⟩
 rcases List.mem_cons.mp hb with z | hb
 ·subst z; exact ⟨_,h.hn,by intro xs y; cases y⟩
 rcases List.mem_cons.mp hb with z | hb
 ·subst z; exact ⟨_,h.go,by intro xs y; cases y⟩
 obtain ⟨x,hx,z⟩:=List.mem_flatMap.mp hb
 exact (h.nd x hx).at z
theorem TrOk.free (h:TrOk C H D) {b:Addr} (e:H b=none):b ∉ D.foot:=fun z=>by
 obtain ⟨o,ho,_⟩:=h.at z
 rw [ho] at e; cases e
theorem TrOk.other (h:TrOk C H D) {b:Addr} {o o':HO} (f:b ∉ D.foot) (e:H b=some o) (nt:∀ xs,o≠.tup xs):TrOk C (upd H b o') D:=by
 refine h.keep fun c u hc hu=>?_
 rw [zai fun z=>?_]
 ·exact hu
 ·subst z
  rcases hc with z | ⟨xs,z⟩
  ·exact f z
  ·rw [e] at z; exact nt xs (Option.some.inj z)
end
def fndN (ns:List ND) (x:Str):Option ND:=ns.find? fun n=>decide (n.nm=x)
theorem zcc {ns:List ND} {x:Str} {n:ND} (h:fndN ns x=some n):n∈ns/\n.nm=x:=by
 unfold fndN at h
 exact ⟨List.mem_of_find?_eq_some h,of_decide_eq_true (List.find?_some (p:=fun n:ND=>decide (n.nm=x)) h)⟩
theorem fnd_none {ns:List ND} {x:Str}:fndN ns x=none↔x ∉ ns.map (·.nm):=by
 unfold fndN
 rw [List.find?_eq_none]
 constructor
 ·intro h z
  obtain ⟨n,hn,e⟩:=List.mem_map.mp z
  exact h n hn (decide_eq_true e)
 ·intro h n hn e
  exact h (List.mem_map.mpr ⟨n,hn,of_decide_eq_true e⟩)
theorem zfs {ns:List ND} (nd:(ns.map (·.nm)).Nodup) {n:ND} (h:n∈ns):fndN ns n.nm=some n:=by
 induction ns with
 | nil=>cases h
 | cons y r ih =>
  rw [List.map_cons,List.nodup_cons] at nd
  unfold fndN
  rw [List.find?_cons]
  rcases List.mem_cons.mp h with e | e
  ·subst e; simp
  ·have ne:decide (y.nm=n.nm)=false:=decide_eq_false fun z=>nd.1 (by rw [z]; exact List.mem_map.mpr ⟨n,e,rfl⟩)
   rw [ne]
   exact ih nd.2 e
theorem zix (ns:List ND) (x:Str):valV (ndK ns) (Sum.inr x:Key)=(fndN ns x).map fun n=>V.ref n.p:=by
 induction ns with
 | nil=>rfl
 | cons p r ih =>
  unfold valV ndK fndN at ih ⊢
  rw [List.map_cons,List.find?_cons,List.find?_cons]
  by_cases h:p.nm=x
  ·simp [h]
  ·have h2:¬ (Sum.inr p.nm:Key)=Sum.inr x:=fun z=>h (Sum.inr.inj z)
   simp only [decide_eq_false h,decide_eq_false h2]
   exact ih
theorem zsg (ns:List ND):(ndK ns).length=ns.length:=List.length_map _
theorem zwa {ns:List ND} {n:ND} (h:fndN ns n.nm=none):putK (ndK ns) (Sum.inr n.nm:Key) (.ref n.p)=ndK (ns++[n]):=by
 unfold putK
 have e:((ndK ns).any fun kv=>decide (kv.1=(Sum.inr n.nm:Key)))=false:=by
  rw [zfe,zix,h]; rfl
 rw [e,if_neg (by decide)]
 unfold ndK
 rw [List.map_append]; rfl
theorem zkt {ns:List ND} {n:ND} (h:fndN ns n.nm=none) (x:Str):fndN (ns++[n]) x=if x=n.nm then some n else fndN ns x:=by
 unfold fndN at h ⊢
 rw [List.find?_append]
 by_cases e:x=n.nm
 ·subst e
  rw [if_pos rfl,h]; simp
 ·rw [if_neg e]
  have:([n].find? fun y=>decide (y.nm=x))=none:=by
   have:¬ n.nm=x:=fun z=>e z.symm
   simp [this]
  rw [this]; simp
def setN (ns:List ND) (n:ND):List ND:=ns.map fun y=>if y.nm=n.nm then n else y
theorem zsh (ns:List ND) (n:ND):(setN ns n).map (·.nm)=ns.map (·.nm):=by
 unfold setN
 rw [List.map_map]
 refine List.map_congr_left fun y _=>?_
 show (if y.nm=n.nm then n else y).nm=y.nm
 split
 ·rename_i h; exact h.symm
 ·rfl
theorem zku {ns:List ND} {n:ND} (x:Str):fndN (setN ns n) x=if x=n.nm then (fndN ns x).map (fun _=>n) else fndN ns x:=by
 induction ns with
 | nil=>unfold fndN setN; simp
 | cons p r ih =>
  unfold fndN setN at ih ⊢
  rw [List.map_cons,List.find?_cons,List.find?_cons]
  by_cases hp:p.nm=n.nm
  ·rw [if_pos hp]
   by_cases hy:p.nm=x
   ·have:n.nm=x:=hp ▸ hy
    simp [hy,this]
   ·have:¬ n.nm=x:=hp ▸ hy
    simp only [decide_eq_false hy,decide_eq_false this]
    exact ih
  ·rw [if_neg hp]
   by_cases hy:p.nm=x
   ·have:¬ x=n.nm:=fun z=>hp (hy.trans z)
    simp [hy,this]
   ·simp only [decide_eq_false hy]
    exact ih
theorem zmt {l1 l2:List ND} {n n':ND} (e:n'.nm=n.nm) (nd:((l1++n :: l2).map (·.nm)).Nodup):setN (l1++n :: l2) n'=l1++n' :: l2:=by
 unfold setN
 rw [List.map_append,List.nodup_append,List.map_cons,List.nodup_cons] at nd
 rw [List.map_append,List.map_cons,if_pos e.symm]
 have h1:l1.map (fun y=>if y.nm=n'.nm then n' else y)=l1:=by
  conv=>rhs; rw [<- List.map_id l1]
  refine List.map_congr_left fun y hy=>?_
  rw [if_neg]; rfl
  intro z
  exact nd.2.2 y.nm (List.mem_map.mpr ⟨y,hy,rfl⟩) n.nm (List.mem_cons_self ..) (z.trans e)
 have h2:l2.map (fun y=>if y.nm=n'.nm then n' else y)=l2:=by
  conv=>rhs; rw [<- List.map_id l2]
  refine List.map_congr_left fun y hy=>?_
  rw [if_neg]; rfl
  intro z
  exact nd.2.1.1 (List.mem_map.mpr ⟨y,hy,z.trans e⟩)
 rw [h1,h2]
section
variable {C:Cl} {H H':Hp} {D:TD}
theorem TrOk.node (h:TrOk C H D) (nd:(D.ns.map (·.nm)).Nodup) {n n':ND} (hn:n∈D.ns) (e:n'.nm=n.nm) (ep:n'.p=n.p) (d:Deed n.foot H H') (ok:NdOk C H' D.most n') (fn:n'.foot.Nodup) (fr:∀ b∈n'.foot,b∈n.foot\/H b=none):TrOk C H' { D with ns:=setN D.ns n' }:=by
 obtain ⟨l1,l2,el⟩:=List.append_of_mem hn
 have fd:=h.fd
 unfold TD.foot at fd
 rw [el,List.flatMap_append,List.flatMap_cons] at fd
 simp only [List.nodup_cons,List.mem_cons,List.mem_append,not_or,List.nodup_append] at fd
 obtain ⟨⟨a1,a2,a3,a4,a5⟩,⟨b1,b2,b3,b4⟩,⟨c1,c2,c3⟩,d1,⟨d2,d3,d4⟩,d5⟩:=fd
 have nt:∀ b∈n.foot,∀ xs,H b≠some (.tup xs):=fun b hb xs z=>by
  obtain ⟨o,ho,q⟩:=(h.nd n hn).at hb
  rw [ho] at z; exact q xs (Option.some.inj z)
 obtain ⟨dx,fs,h1,h2⟩:=h.ex
 have new:∀ {b:Addr} {o:HO},H b=some o->b ∉ n.foot->b ∉ n'.foot:=fun {b o} ho hb z=>by
  rcases fr b z with y | y
  ·exact hb y
  ·rw [ho] at y; cases y
 have sp:setN D.ns n'=l1++n' :: l2:=by
  rw [el] at nd ⊢
  exact zmt e nd
 have hs:∀ {b:Addr},b∈D.foot->∃ o,H b=some o:=fun {b} hb=>(h.at hb).imp fun _ z=>z.1
 refine ⟨⟨dx,fs,d _ _ a4 h1,h2⟩,?_,fun x hx=>?_,d _ _ c2 h.go,zfd (fun p g z=>d _ _ (fun y=>nt p y _ z) z) h.gr,?_⟩
 ·show H' D.pn=some (.dK (ndK (setN D.ns n')))
  have:ndK (setN D.ns n')=ndK D.ns:=by
   rw [sp,el]
   unfold ndK
   rw [List.map_append,List.map_append,List.map_cons,List.map_cons,e,ep]
  rw [this]
  exact d _ _ b3 h.hn
 ·have hx:x∈l1++n' :: l2:=sp ▸ hx
  have old:x∈D.ns->(∀ b∈x.foot,b ∉ n.foot)->NdOk C H' D.most x:=fun h1 h2=>(h.nd x h1).deed d h2 nt
  rcases List.mem_append.mp hx with z | z
  ·exact old (el ▸ List.mem_append.mpr (.inl z)) fun b hb y=>d5 b (List.mem_flatMap.mpr ⟨x,z,hb⟩) b (.inl y) rfl
  ·rcases List.mem_cons.mp z with z | z
   ·rw [z]; exact ok
   ·exact old (el ▸ List.mem_append.mpr (.inr (List.mem_cons_of_mem _ z))) fun b hb y=>d4 b y b (List.mem_flatMap.mpr ⟨x,z,hb⟩) rfl
 ·show (D.p :: D.pn :: D.pg :: (setN D.ns n').flatMap ND.foot).Nodup
  rw [sp,List.flatMap_append,List.flatMap_cons]
  simp only [List.nodup_cons,List.mem_cons,List.mem_append,not_or,List.nodup_append]
  have hl1:∀ {b:Addr},b∈l1.flatMap ND.foot->∃ o,H b=some o:=fun {b} hb=>by
   obtain ⟨x,hx,y⟩:=List.mem_flatMap.mp hb
   exact hs (TD.mem_node (el ▸ List.mem_append.mpr (.inl hx)) y)
  have hl2:∀ {b:Addr},b∈l2.flatMap ND.foot->∃ o,H b=some o:=fun {b} hb=>by
   obtain ⟨x,hx,y⟩:=List.mem_flatMap.mp hb
   exact hs (TD.mem_node (el ▸ List.mem_append.mpr (.inr (List.mem_cons_of_mem _ hx))) y)
  refine ⟨⟨a1,a2,a3,new h1 a4,a5⟩,⟨b1,b2,new h.hn b3,b4⟩,⟨c1,new h.go c2,c3⟩,d1,⟨fn,d3,fun b hb c hc z=>?_⟩,fun b hb c hc z=>?_⟩
  ·subst z
   obtain ⟨o,ho⟩:=hl2 hc
   exact new ho (fun y=>d4 b y b hc rfl) hb
  ·subst z
   obtain ⟨o,ho⟩:=hl1 hb
   rcases hc with y | y
   ·exact new ho (fun q=>d5 b hb b (.inl q) rfl) y
   ·exact d5 b hb b (.inr y) rfl
end
end L2
namespace L2
open PySem PySem.Spec PyProof.Rows
def road:Str:=Str.ofString "road"
inductive Up (ns:List ND):Str->List Str->Prop
 | top {x:Str} {n:ND}:fndN ns x=some n->n.ab=none->Up ns x [x]
 | on {x y:Str} {n:ND} {ys:List Str}:fndN ns x=some n->n.ab=some y->Up ns y ys->Up ns x (x :: ys)
theorem Up.fnd {ns:List ND} {x:Str} {ys:List Str} (h:Up ns x ys):∃ n,fndN ns x=some n:=by
 cases h with
 | top h _=>exact ⟨_,h⟩
 | on h _ _=>exact ⟨_,h⟩
theorem Up.det {ns:List ND} {x:Str} {ys zs:List Str} (h:Up ns x ys):Up ns x zs->ys=zs:=by
 induction h generalizing zs with
 | top h e =>
  intro k
  cases k with
  | top _ _=>rfl
  | on h2 e2 _=>rw [h] at h2; cases h2; rw [e] at e2; cases e2
 | on h e r ih =>
  intro k
  cases k with
  | top h2 e2=>rw [h] at h2; cases h2; rw [e] at e2; cases e2
  | on h2 e2 r2 =>
   rw [h] at h2; cases h2; rw [e] at e2; cases e2
   rw [ih r2]
theorem Up.mono {ns ns':List ND} {x:Str} {ys:List Str} (h:Up ns x ys):(∀ z∈ys,∀ n,fndN ns z=some n->∃ n',fndN ns' z=some n'/\n'.ab=n.ab)->Up ns' x ys:=by
 induction h with
 | top h e =>
  intro k
  obtain ⟨n',h1,h2⟩:=k _ (List.mem_cons_self ..) _ h
  exact .top h1 (h2.trans e)
 | on h e r ih =>
  intro k
  obtain ⟨n',h1,h2⟩:=k _ (List.mem_cons_self ..) _ h
  exact .on h1 (h2.trans e) (ih fun z hz=>k z (List.mem_cons_of_mem _ hz))
theorem Up.pos {ns:List ND} {x:Str} {ys:List Str} (h:Up ns x ys):1<=ys.length:=by
 cases h <;> simp
def kids (ns:List ND) (x:Str):List Str:=(ns.filter fun n=>decide (n.ab=some x)).map (·.nm)
structure TD.Wf (D:TD):Prop where
 nn:(D.ns.map (·.nm)).Nodup
 rd:∃ n r,D.ns=n :: r/\n.nm=road/\n.ab=none/\n.ch≠none
 ra:∀ n∈D.ns,n.ab=none->n.nm=road
 up:∀ n∈D.ns,∃ ys,Up D.ns n.nm ys/\ys.length<=6
 kid:∀ n∈D.ns,∀ c,n.ch=some c->c.2.nm.map (·.1)=kids D.ns n.nm
 lf:∀ n∈D.ns,n.ch=none->kids D.ns n.nm = []
 cok:∀ n∈D.ns,∀ c,n.ch=some c->c.2.Ok D.most
 m1:1<=D.most/\D.most<=1000000
 sok:∀ n∈D.ns,PyData.strOk n.nm=true/\n.nm.length<=8
theorem TD.Wf.rdN {D:TD} (h:D.Wf):∃ n,fndN D.ns L2.road=some n/\n.ab=none/\n.ch≠none:=by
 obtain ⟨n,r,e,h1,h2,h3⟩:=h.rd
 have:=zfs h.nn (n:=n) (by rw [e]; exact List.mem_cons_self ..)
 exact ⟨n,h1 ▸ this,h2,h3⟩
theorem ztq (ns:List ND) (n:ND) (x:Str):kids (ns++[n]) x=kids ns x++(if n.ab=some x then [n.nm] else []):=by
 unfold kids
 rw [List.filter_append,List.map_append]
 congr 1
 by_cases h:n.ab=some x
 ·simp [h]
 ·simp [h]
theorem zpi {ns:List ND} {n n':ND} (nd:(ns.map (·.nm)).Nodup) (hn:n∈ns) (e:n'.nm=n.nm) (ea:n'.ab=n.ab) (x:Str):kids (setN ns n') x=kids ns x:=by
 obtain ⟨l1,l2,el⟩:=List.append_of_mem hn
 rw [el] at nd ⊢
 rw [zmt e nd]
 unfold kids
 rw [List.filter_append,List.filter_append,List.map_append,List.map_append]
 congr 1
 rw [List.filter_cons,List.filter_cons,ea]
 by_cases h:n.ab=some x
 ·simp [h,e]
 ·simp [h]
theorem TD.Wf.set {D:TD} (h:D.Wf) {n n':ND} (hn:n∈D.ns) (e:n'.nm=n.nm) (ea:n'.ab=n.ab) (ec:n'.ch=none↔n.ch=none) (ek:∀ c c',n.ch=some c->n'.ch=some c'->c'.2.nm.map (·.1)=c.2.nm.map (·.1)) (ok:∀ c,n'.ch=some c->c.2.Ok D.most):{ D with ns:=setN D.ns n' }.Wf:=by
 have fn:=zfs h.nn hn
 have fs:∀ y,fndN (setN D.ns n') y=if y=n.nm then some n' else fndN D.ns y:=fun y=>by
  rw [zku,e]
  by_cases q:y=n.nm
  ·rw [if_pos q,if_pos q,q,fn]; rfl
  ·rw [if_neg q,if_neg q]
 have mem:∀ y∈setN D.ns n',y=n'\/y∈D.ns:=fun y hy=>by
  unfold setN at hy
  obtain ⟨z,hz,q⟩:=List.mem_map.mp hy
  split at q
  ·exact .inl q.symm
  ·exact .inr (q ▸ hz)
 have kd:=fun x=>zpi h.nn hn e ea x
 have upm:∀ {x ys},Up D.ns x ys->Up (setN D.ns n') x ys:=fun {x ys} u=>u.mono fun z _ m hm=>by
  rw [fs]
  by_cases q:z=n.nm
  ·rw [if_pos q]
   rw [q,fn] at hm; cases hm
   exact ⟨_,rfl,ea⟩
  ·rw [if_neg q]; exact ⟨m,hm,rfl⟩
 obtain ⟨r,rs,er,r1,r2,r3⟩:=h.rd
 refine ⟨by show ((setN D.ns n').map (·.nm)).Nodup; rw [zsh]; exact h.nn,?_,fun y hy ha=>?_,fun y hy=>?_,fun y hy c hc=>?_,fun y hy hc=>?_,fun y hy c hc=>?_,h.m1,fun y hy=>?_⟩
 ·show ∃ n r,setN D.ns n'=n :: r/\_
  rw [er]
  unfold setN
  rw [List.map_cons]
  by_cases q:r.nm=n'.nm
  ·rw [if_pos q]
   have:r=n:=by
    have h1:=zfs h.nn (n:=r) (by rw [er]; exact List.mem_cons_self ..)
    rw [q,e,fn] at h1; exact (Option.some.inj h1).symm
   subst this
   exact ⟨_,_,rfl,q ▸ r1,ea.trans r2,fun z=>r3 (ec.mp z)⟩
  ·rw [if_neg q]; exact ⟨_,_,rfl,r1,r2,r3⟩
 ·rcases mem y hy with z | z
  ·subst z; rw [e]; exact h.ra n hn (ea ▸ ha)
  ·exact h.ra y z ha
 ·rcases mem y hy with z | z
  ·subst z
   obtain ⟨ys,u,l⟩:=h.up n hn
   exact ⟨ys,by rw [e]; exact upm u,l⟩
  ·obtain ⟨ys,u,l⟩:=h.up y z
   exact ⟨ys,upm u,l⟩
 ·show _=kids (setN D.ns n') y.nm
  rw [kd]
  rcases mem y hy with z | z
  ·subst z
   cases hc0:n.ch with
   | none=>rw [ec.mpr hc0] at hc; cases hc
   | some c0=>rw [ek c0 c hc0 hc,e]; exact h.kid n hn c0 hc0
  ·exact h.kid y z c hc
 ·show kids (setN D.ns n') y.nm = []
  rw [kd]
  rcases mem y hy with z | z
  ·subst z; rw [e]; exact h.lf n hn (ec.mp hc)
  ·exact h.lf y z hc
 ·rcases mem y hy with z | z
  ·subst z; exact ok c hc
  ·exact h.cok y z c hc
 ·rcases mem y hy with z | z
  ·subst z; rw [e]; exact h.sok n hn
  ·exact h.sok y z
theorem TD.Wf.put {D:TD} (h:D.Wf) {u u' n:ND} {c:At5×CSt} {s:Int} (hu:u∈D.ns) (hc:u.ch=some c) (eu:u' = { u with ch:=some (c.1,c.2.put n.nm s) }) (ok:(c.2.put n.nm s).Ok D.most) (hn:fndN D.ns n.nm=none) (ea:n.ab=some u.nm) (dp:∀ ys,Up D.ns u.nm ys->ys.length<=5) (nk:∀ c,n.ch=some c->c.2.nm = []/\c.2.Ok D.most) (sk:PyData.strOk n.nm=true/\n.nm.length<=8):{ D with ns:=setN D.ns u'++[n] }.Wf:=by
 have en:u'.nm=u.nm:=by rw [eu]
 have eab:u'.ab=u.ab:=by rw [eu]
 have fu:=zfs h.nn hu
 have nin:n.nm ∉ D.ns.map (·.nm):=fnd_none.mp hn
 have nu:n.nm≠u.nm:=fun z=>nin (z ▸ List.mem_map.mpr ⟨u,hu,rfl⟩)
 have fs:∀ y,fndN (setN D.ns u') y=if y=u.nm then some u' else fndN D.ns y:=fun y=>by
  rw [zku,en]
  by_cases q:y=u.nm
  ·rw [if_pos q,if_pos q,q,fu]; rfl
  ·rw [if_neg q,if_neg q]
 have hn':fndN (setN D.ns u') n.nm=none:=by rw [fs,if_neg nu]; exact hn
 have ff:=fun y=>zkt (n:=n) hn' y
 have mem:∀ y∈setN D.ns u'++[n],y=n\/y=u'\/(y∈D.ns/\y.nm≠u.nm):=fun y hy=>by
  rcases List.mem_append.mp hy with hy | hy
  ·unfold setN at hy
   obtain ⟨z,hz,q⟩:=List.mem_map.mp hy
   split at q
   ·exact .inr (.inl q.symm)
   ·rename_i k
    exact .inr (.inr ⟨q ▸ hz,fun w=>k (by rw [q,w,en])⟩)
  ·exact .inl (List.mem_singleton.mp hy)
 have upm:∀ {x ys},Up D.ns x ys->Up (setN D.ns u'++[n]) x ys:=fun {x ys} w=>w.mono fun z _ m hm=>by
  rw [ff,fs]
  have z1:z≠n.nm:=fun q=>by rw [q,hn] at hm; cases hm
  rw [if_neg z1]
  by_cases q:z=u.nm
  ·rw [if_pos q]
   rw [q,fu] at hm; cases hm
   exact ⟨_,rfl,eab⟩
  ·rw [if_neg q]; exact ⟨m,hm,rfl⟩
 have kd:∀ x,kids (setN D.ns u'++[n]) x=kids D.ns x++(if x=u.nm then [n.nm] else []):=fun x=>by
  rw [ztq,zpi h.nn hu en eab,ea]
  by_cases q:x=u.nm
  ·rw [if_pos q,if_pos (by rw [q])]
  ·rw [if_neg q,if_neg (fun z=>q (Option.some.inj z).symm)]
 have nokid:kids D.ns n.nm = []:=by
  unfold kids
  rw [List.map_eq_nil_iff,List.filter_eq_nil_iff]
  intro y hy z
  have z:=of_decide_eq_true z
  obtain ⟨ys,w,_⟩:=h.up y hy
  cases w with
  | top h1 h2=>rw [zfs h.nn hy] at h1; cases h1; rw [z] at h2; cases h2
  | on h1 h2 w =>
   rw [zfs h.nn hy] at h1; cases h1; rw [z] at h2; cases h2
   obtain ⟨m,hm⟩:=w.fnd
   rw [hn] at hm; cases hm
 obtain ⟨r,rs,er,r1,r2,r3⟩:=h.rd
 refine ⟨?_,?_,fun y hy ha=>?_,fun y hy=>?_,fun y hy d hd=>?_,fun y hy hd=>?_,fun y hy d hd=>?_,h.m1,fun y hy=>?_⟩
 ·show ((setN D.ns u'++[n]).map (·.nm)).Nodup
  rw [List.map_append,zsh,List.nodup_append]
  refine ⟨h.nn,by simp,fun a ha b hb z=>?_⟩
  have:b=n.nm:=List.mem_singleton.mp hb
  subst this
  subst z
  exact nin ha
 ·show ∃ m r,setN D.ns u'++[n] = m :: r/\_
  rw [er]
  unfold setN
  rw [List.map_cons,List.cons_append]
  by_cases q:r.nm=u'.nm
  ·rw [if_pos q]
   have:r=u:=by
    have h1:=zfs h.nn (n:=r) (by rw [er]; exact List.mem_cons_self ..)
    rw [q,en,fu] at h1; exact (Option.some.inj h1).symm
   subst this
   exact ⟨_,_,rfl,q ▸ r1,eab.trans r2,by rw [eu]; simp⟩
  ·rw [if_neg q]; exact ⟨_,_,rfl,r1,r2,r3⟩
 ·rcases mem y hy with z | z | z
  ·subst z; rw [ea] at ha; cases ha
  ·subst z; rw [en]; exact h.ra u hu (eab ▸ ha)
  ·exact h.ra y z.1 ha
 ·rcases mem y hy with z | z | z
  ·subst z
   obtain ⟨ys,w,_⟩:=h.up u hu
   refine ⟨y.nm :: ys,.on (n:=y) (by rw [ff,if_pos rfl]) ea (upm w),?_⟩
   have:=dp ys w
   rw [List.length_cons]; omega
  ·subst z
   obtain ⟨ys,w,l⟩:=h.up u hu
   exact ⟨ys,by rw [en]; exact upm w,l⟩
  ·obtain ⟨ys,w,l⟩:=h.up y z.1
   exact ⟨ys,upm w,l⟩
 ·show _=kids (setN D.ns u'++[n]) y.nm
  rw [kd]
  rcases mem y hy with z | z | z
  ·subst z
   rw [(nk d hd).1,nokid,if_neg nu]; rfl
  ·subst z
   rw [en,if_pos rfl]
   have:d=(c.1,c.2.put n.nm s):=by rw [eu] at hd; exact (Option.some.inj hd).symm
   rw [this]
   show (c.2.put n.nm s).nm.map (·.1) = _
   rw [CSt.nm_put,List.map_append,h.kid u hu c hc]; rfl
  ·rw [if_neg z.2,List.append_nil]; exact h.kid y z.1 d hd
 ·show kids (setN D.ns u'++[n]) y.nm = []
  rw [kd]
  rcases mem y hy with z | z | z
  ·subst z; rw [nokid,if_neg nu]; rfl
  ·subst z; rw [eu] at hd; cases hd
  ·rw [if_neg z.2,List.append_nil]; exact h.lf y z.1 hd
 ·rcases mem y hy with z | z | z
  ·subst z; exact (nk d hd).2
  ·subst z
   have:d=(c.1,c.2.put n.nm s):=by rw [eu] at hd; exact (Option.some.inj hd).symm
   rw [this]; exact ok
  ·exact h.cok y z.1 d hd
 ·rcases mem y hy with z | z | z
  ·subst z; exact sk
  ·subst z; rw [en]; exact h.sok u hu
  ·exact h.sok y z.1
theorem TD.Wf.new {D:TD} {n:ND} {a:At5} {b:Bool} (e:D.ns = [n]) (h1:n.nm=road) (h2:n.ab=none) (h3:n.ch=some (a,CSt.new b)) (m1:1<=D.most/\D.most<=1000000):D.Wf:=by
 have one:∀ {y},y∈D.ns->y=n:=fun {y} hy=>by rw [e] at hy; exact List.mem_singleton.mp hy
 have f:fndN D.ns n.nm=some n:=by rw [e]; unfold fndN; simp
 have kd:∀ x,kids D.ns x = []:=fun x=>by
  rw [e]; unfold kids
  simp [h2]
 refine ⟨by rw [e]; simp,⟨n,[],e,h1,h2,by rw [h3]; simp⟩,fun y hy _=>one hy ▸ h1,fun y hy=>?_,fun y hy c hc=>?_,fun y hy _=>kd _,fun y hy c hc=>?_,m1,fun y hy=>?_⟩
 ·rw [one hy]; exact ⟨[n.nm],.top f h2,by simp⟩
 ·rw [kd]
  rw [one hy,h3] at hc
  cases hc
  show (CSt.new b).nm.map _ = []
  rw [CSt.nm_new]; rfl
 ·rw [one hy,h3] at hc
  cases hc
  exact CSt.Ok.new m1.1 b
 ·rw [one hy,h1]; exact ⟨by decide +kernel,by decide +kernel⟩
theorem TD.Wf.kid_len {D:TD} (h:D.Wf) {n:ND} (hn:n∈D.ns) {c:At5×CSt} (hc:n.ch=some c):c.2.nm.length<=D.ns.length:=by
 have:=congrArg List.length (h.kid n hn c hc)
 unfold kids at this
 rw [List.length_map,List.length_map] at this
 rw [this]
 exact List.length_filter_le _ _
section
variable {C:Cl} {H H':Hp} {D:TD}
theorem TrOk.ndfoot (h:TrOk C H D) {n:ND} (hn:n∈D.ns):n.foot.Nodup:=by
 have fd:=h.fd
 unfold TD.foot at fd
 obtain ⟨l1,l2,el⟩:=List.append_of_mem hn
 rw [el,List.flatMap_append,List.flatMap_cons] at fd
 simp only [List.nodup_cons,List.nodup_append] at fd
 exact fd.2.2.2.2.1.1
theorem TrOk.chooser (h:TrOk C H D) (nd:(D.ns.map (·.nm)).Nodup) {n:ND} (hn:n∈D.ns) {a:At5} {c c':CSt} (hc:n.ch=some (a,c)) (ow:Own a H H') (C':ChS C.s C.r C.m H' a D.most c'):TrOk C H' { D with ns:=setN D.ns { n with ch:=some (a,c') } }:=by
 have fn:=h.ndfoot hn
 have N:=h.nd n hn
 have ef:ND.foot { n with ch:=some (a,c') } = n.foot:=by unfold ND.foot; rw [hc]; rfl
 have sub:∀ b∈five a,b∈n.foot:=fun b hb=>by
  unfold ND.foot
  rw [hc]
  exact List.mem_cons_of_mem _ (List.mem_cons_of_mem _ (List.mem_append.mpr (.inl hb)))
 have fd:n.foot=n.p :: n.ql :: (five a++bkF n.bk):=by unfold ND.foot; rw [hc]; rfl
 have fn':=fn
 rw [fd] at fn'
 simp only [List.nodup_cons,List.mem_cons,List.mem_append,not_or,List.nodup_append] at fn'
 obtain ⟨⟨f1,f2,f3⟩,⟨f4,f5⟩,f6,f7,f8⟩:=fn'
 have dd:=ow.deed
 have nt:∀ {b xs},H b=some (.tup xs)->b ∉ five a:=fun {b xs} e z=>by
  obtain ⟨o,ho,q⟩:=(N.ch _ hc).at z
  rw [e] at ho; exact q xs (Option.some.inj ho).symm
 obtain ⟨dx,fs,h1,h2⟩:=N.ex
 refine h.node nd hn rfl rfl (dd.mono sub) ⟨⟨dx,fs,dd _ _ f2 h1,by rw [hc] at h2; exact h2⟩,⟨dd _ _ f4 N.qu.hl,N.qu.r.keep fun p z hp=>dd _ _ (nt hp) hp⟩,fun d hd=>?_,fun b hb=>?_⟩ (by rw [ef]; exact fn) fun b hb=>.inl (by rw [ef] at hb; exact hb)
 ·cases hd; exact C'
 ·obtain ⟨dx',fs',pr,pl,b1,b2,b3,b4⟩:=(N.bk b hb).ex
  have:b.1 ∉ five a:=fun z=>f8 b.1 z b.1 (by rw [show n.bk=some b from hb]; exact List.mem_singleton.mpr rfl) rfl
  exact ⟨dx',fs',pr,pl,dd _ _ this b1,b2,dd _ _ (nt b3) b3,dd _ _ (nt b4) b4⟩
theorem TrOk.snoc (h:TrOk C H D) {n:ND} (s:Same H H') (ok:NdOk C H' D.most n) (fn:n.foot.Nodup) (fr:∀ b∈n.foot,H b=none):TrOk C (upd H' D.pn (.dK (ndK (D.ns++[n])))) { D with ns:=D.ns++[n] }:=by
 have fd:=h.fd
 unfold TD.foot at fd
 simp only [List.nodup_cons,List.mem_cons,not_or] at fd
 obtain ⟨⟨a1,a2,a3⟩,⟨b1,b2⟩,c1,d1⟩:=fd
 have nf:∀ b∈D.foot,b ∉ n.foot:=fun b hb z=>by
  obtain ⟨o,ho,_⟩:=h.at hb
  rw [fr b z] at ho; cases ho
 have kp:∀ b o,b≠D.pn->H' b=some o->upd H' D.pn (.dK (ndK (D.ns++[n]))) b=some o:=fun b o q e=>by rw [zai q]; exact e
 have tp:∀ {b xs},H' b=some (.tup xs)->b≠D.pn:=fun {b xs} e z=>by rw [z,s _ _ h.hn] at e; cases e
 obtain ⟨dx,fs,h1,h2⟩:=h.ex
 have h':=h.same s
 refine ⟨⟨dx,fs,kp _ _ a1 (s _ _ h1),h2⟩,zac,fun x hx=>?_,kp _ _ (Ne.symm b1) (s _ _ h.go),zfd (fun p g z=>kp _ _ (tp z) z) h'.gr,?_⟩
 ·rcases List.mem_append.mp hx with z | z
  ·refine (h'.nd x z).keep fun b o hb e=>kp b o ?_ e
   rcases hb with q | ⟨xs,q⟩
   ·exact fun w=>b2 (w ▸ List.mem_flatMap.mpr ⟨x,z,q⟩)
   ·exact tp q
  ·rw [List.mem_singleton.mp z]
   refine ok.keep fun b o hb e=>kp b o ?_ e
   rcases hb with q | ⟨xs,q⟩
   ·exact fun w=>nf D.pn (List.mem_cons_of_mem _ (List.mem_cons_self ..)) (w ▸ q)
   ·exact tp q
 ·show (D.p :: D.pn :: D.pg :: (D.ns++[n]).flatMap ND.foot).Nodup
  rw [List.flatMap_append,List.flatMap_cons,List.flatMap_nil,List.append_nil]
  simp only [List.nodup_cons,List.mem_cons,List.mem_append,not_or,List.nodup_append]
  have f1:=nf D.p (List.mem_cons_self ..)
  have f2:=nf D.pn (List.mem_cons_of_mem _ (List.mem_cons_self ..))
  have f3:=nf D.pg (List.mem_cons_of_mem _ (List.mem_cons_of_mem _ (List.mem_cons_self ..)))
  refine ⟨⟨a1,a2,a3,f1⟩,⟨b1,b2,f2⟩,⟨c1,f3⟩,d1,fn,fun b hb c hc z=>?_⟩
  subst z
  obtain ⟨x,hx,y⟩:=List.mem_flatMap.mp hb
  exact nf b (TD.mem_node hx y) hc
end
end L2
namespace L2
open PySem PySem.Spec PyProof.Rows
theorem zkv {n:Nat} (h:n<=1000000):n<sizeLine:=by rw [sizeLine_eq]; omega
theorem zkw {n:Nat} (h:n<=1000000):n<=sizeLine:=Nat.le_of_lt (zkv h)
theorem zpj {α:Type} {l:List α} {i:Nat} {a:α} (h:l[i]? = some a):l.take (i+1)=l.take i++[a]:=by
 obtain ⟨hi,e⟩:=List.getElem?_eq_some_iff.mp h
 rw [List.take_succ_eq_append_getElem hi,e]
def StOk (n:Nat) (z:Str):Prop:=PyData.strOk z=true/\z.length<=n
theorem zxz {z:Str}:PyData.strOk z=true↔∀ c∈z.cps.toList,c<1114112:=by
 unfold PyData.strOk
 rw [Array.all_eq_true_iff_forall_mem]
 simp
def lets:Str:=Str.ofString "abcdefghijklmnopqrstuvwxyz"
def zeo (z:Str):Prop:=(1<=z.length/\z.length<=8)/\∀ c∈z.cps.toList,c∈lets.cps.toList
instance (z:Str):Decidable (zeo z):=by unfold zeo; exact inferInstance
def Inner (kd:Str):Prop:=kd=Str.ofString "starts" \/ kd=Str.ofString "rounds"
instance (kd:Str):Decidable (Inner kd):=by unfold Inner; exact inferInstance
def kdB (kd:Str):Bool:=decide (kd=Str.ofString "rounds")
theorem zkx {kd:Str}:inV (.str kd) [.str (Str.ofString "starts"),.str (Str.ofString "rounds")] = decide (Inner kd):=by
 rw [Bool.eq_iff_iff,decide_eq_true_iff]
 show (Str.ofString "starts" == kd || (Str.ofString "rounds" == kd || false))=true↔kd=Str.ofString "starts" \/ kd=Str.ofString "rounds"
 rw [Bool.or_false,Bool.or_eq_true,beq_iff_eq,beq_iff_eq]
 exact ⟨fun h=>h.imp Eq.symm Eq.symm,fun h=>h.imp Eq.symm Eq.symm⟩
theorem nd_at {C:Cl} {H:Hp} {D:TD} {x:Str} {n:ND} (O:TrOk C H D) (h:fndN D.ns x=some n):DGet H D.pn (.str x) (some (.ref n.p)):=by
 have:=DGet.k (k:=Sum.inr x) O.hn
 rw [zix,h] at this
 exact this
def kdOk (kd:Str):Prop:=kd=Str.ofString "leaf" \/ Inner kd
instance (kd:Str):Decidable (kdOk kd):=by unfold kdOk; exact inferInstance
inductive Rf
 | name | taken | cls | place | share | length
open Classical in
noncomputable def dueP (D:TD) (x u kd:Str) (s:Int) (rm:V):Option Rf :=
 if ¬ zeo x then some .name
 else if fndN D.ns x≠none then some .taken
 else match fndN D.ns u with
  | none=>some .cls
  | some n=>if ¬ (kdOk kd/\n.ch≠none/\∀ ys,Up D.ns u ys->ys.length<=5) then some .place
   else if ¬ (1<=s/\s<=1000000) then some .share
   else if kd=Str.ofString "leaf" /\ ∃ r:Int,rm = .int r/\r<0 then some .length
   else none
section
variable {D:TD} {x u kd:Str} {s:Int} {rm:V} {n:ND}
theorem zpk (h:¬ zeo x):dueP D x u kd s rm=some .name:=by unfold dueP; rw [if_pos h]
theorem zmu (h:zeo x) (hx:fndN D.ns x≠none):dueP D x u kd s rm=some .taken:=by unfold dueP; rw [if_neg (fun z=>z h),if_pos hx]
theorem zsi (h:zeo x) (hx:fndN D.ns x=none) (hu:fndN D.ns u=none):dueP D x u kd s rm=some .cls:=by unfold dueP; rw [if_neg (fun z=>z h),if_neg (fun z=>z hx),hu]
theorem zmv (h:zeo x) (hx:fndN D.ns x=none) (hu:fndN D.ns u=some n) (c:¬ (kdOk kd/\n.ch≠none/\∀ ys,Up D.ns u ys->ys.length<=5)):dueP D x u kd s rm=some .place:=by
 unfold dueP; rw [if_neg (fun z=>z h),if_neg (fun z=>z hx),hu]
 exact if_pos c
theorem zmw (h:zeo x) (hx:fndN D.ns x=none) (hu:fndN D.ns u=some n) (c:kdOk kd/\n.ch≠none/\∀ ys,Up D.ns u ys->ys.length<=5) (d:¬ (1<=s/\s<=1000000)):dueP D x u kd s rm=some .share:=by
 unfold dueP; rw [if_neg (fun z=>z h),if_neg (fun z=>z hx),hu]
 exact (if_neg (fun z=>z c)).trans (if_pos d)
theorem zqi (h:zeo x) (hx:fndN D.ns x=none) (hu:fndN D.ns u=some n) (c:kdOk kd/\n.ch≠none/\∀ ys,Up D.ns u ys->ys.length<=5) (d:1<=s/\s<=1000000) (e:kd=Str.ofString "leaf" /\ ∃ r:Int,rm = .int r/\r<0):dueP D x u kd s rm=some .length:=by
 unfold dueP; rw [if_neg (fun z=>z h),if_neg (fun z=>z hx),hu]
 exact (if_neg (fun z=>z c)).trans ((if_neg (fun z=>z d)).trans (if_pos e))
theorem zpl (h:zeo x) (hx:fndN D.ns x=none) (hu:fndN D.ns u=some n) (c:kdOk kd/\n.ch≠none/\∀ ys,Up D.ns u ys->ys.length<=5) (d:1<=s/\s<=1000000) (e:¬ (kd=Str.ofString "leaf" /\ ∃ r:Int,rm = .int r/\r<0)):dueP D x u kd s rm=none:=by
 unfold dueP; rw [if_neg (fun z=>z h),if_neg (fun z=>z hx),hu]
 exact (if_neg (fun z=>z c)).trans ((if_neg (fun z=>z d)).trans (if_neg e))
end
def Rf.at (cN cT cC cP cS cL:Addr):Rf->Addr
 | .name=>cN
 | .taken=>cT
 | .cls=>cC
 | .place=>cP
 | .share=>cS
 | .length=>cL
def TD.put (D:TD) (u:ND) (c:At5×CSt) (s:Int) (n:ND):TD:={ D with ns:=setN D.ns { u with ch:=some (c.1,c.2.put n.nm s) }++[n] }
def TD.full (D:TD):Prop:=D.ns.length<=60/\∀ n∈D.ns,∀ c,n.ch=some c->c.2.sz<=4*D.ns.length
def TD.fit (D:TD):Prop:=D.ns.length<=60/\∀ n∈D.ns,∀ c,n.ch=some c->c.2.sz<=800
theorem TD.full.fit {D:TD} (h:D.full):D.fit:=⟨h.1,fun n hn c hc=>Nat.le_trans (h.2 n hn c hc) (by have:=h.1; omega)⟩
section
variable {X:Cx}
end
theorem ixNum {K:PySem.W.Frag} {H:Hp} {l:Addr} {xs:List Int} {Q:VK} (i:Nat) (hl:H l=some (.lst (xs.map V.int))) (hi:i<xs.length) (k:∀ y∈xs,Q (.int y) H):rIxL K (.ref l) (.int (i:Int)) H Q:=by
 have e:=zhi (xs:=xs.map V.int) (j:=i) (v:=V.int (xs[i]'hi)) (by simp)
 exact zgj (.of hl) e (k _ (List.getElem_mem hi))
theorem ixW {K:PySem.W.Frag} {H:Hp} {l:Addr} {ks:List Str} {Q:VK} {y:Int} (hl:H l=some (.lst (ks.map V.str))) (h0:0<=y) (h1:y<ks.length) (k:∀ z∈ks,Q (.str z) H):rIxL K (.ref l) (.int y) H Q:=by
 have e:=zhi (xs:=ks.map V.str) (j:=y.toNat) (v:=V.str (ks[y.toNat]'(by omega))) (by simp)
 rw [Int.toNat_of_nonneg h0] at e
 exact zgj (.of hl) e (k _ (List.getElem_mem _))
end L2
namespace L2
open PySem PySem.Spec PyProof.Rows
section
variable {C:Cl} {H H':Hp} {D:TD}
theorem TrOk.apart (h:TrOk C H D) {x:ND} (hx:x∈D.ns) {b:Addr} (hb:b∈x.foot):b≠D.p/\b≠D.pn/\b≠D.pg:=by
 have fd:=h.fd
 unfold TD.foot at fd
 simp only [List.nodup_cons,List.mem_cons,not_or] at fd
 have m:=List.mem_flatMap.mpr ⟨x,hx,hb⟩
 exact ⟨fun z=>fd.1.2.2 (z ▸ m),fun z=>fd.2.1.2 (z ▸ m),fun z=>fd.2.2.1 (z ▸ m)⟩
theorem TrOk.field (h:TrOk C H D) {dx:Addr} {fs fs':List (Str×V)} {tm fr ct:Int} (hp:H D.p=some (.ins C.t dx fs)) (ft:FTr fs' D.most D.pn tm fr ct D.pg):TrOk C (upd H D.p (.ins C.t dx fs')) { D with tm:=tm,fr:=fr,ct:=ct }:=by
 have fd:=h.fd
 unfold TD.foot at fd
 simp only [List.nodup_cons,List.mem_cons,not_or] at fd
 have kp:∀ b o,b≠D.p->H b=some o->upd H D.p (.ins C.t dx fs') b=some o:=fun b o q e=>by rw [zai q]; exact e
 have tp:∀ {b xs},H b=some (.tup xs)->b≠D.p:=fun {b xs} e z=>by rw [z,hp] at e; cases e
 refine ⟨⟨dx,fs',zac,ft⟩,kp _ _ (Ne.symm fd.1.1) h.hn,fun x hx=>(h.nd x hx).keep fun b o hb e=>kp b o ?_ e,kp _ _ (Ne.symm fd.1.2.1) h.go,zfd (fun p g z=>kp _ _ (tp z) z) h.gr,h.fd⟩
 rcases hb with q | ⟨xs,q⟩
 ·exact (h.apart hx q).1
 ·exact tp q
end
section
variable {C:Cl} {H H':Hp} {D:TD}
end
end L2
namespace L2
open PySem PySem.Spec PyProof.Rows
def zus (t:TS):TS:=fun D σ H=>t { D with nx:=fun σ' H'=>∃ a o kvs kvs',H a=some (.dK kvs')/\H' a=some (.frz o (.dK kvs))/\D.nx σ' (upd H' a (.dK kvs)) } σ H
theorem zwb {X:Cx} {st:Stmt} {t:TS} (h:PS X st t):PS X st (zus t):=by
 intro pins s σ H D I q
 refine thn (h pins s σ H _ I q) fun f s1 z=>?_
 cases f with
 | next =>
  obtain ⟨σ1,H1,I1,a,o,kvs,kvs',h0,h1,q1⟩:=z
  refine ⟨σ1,_,I1.thawed h1 fun o' u e=>?_,q1⟩
  have:=I.base.frzs a o' u e
  rw [h0] at this
  cases this
 | brk=>exact z
 | cont=>exact z
 | ret u=>exact z
theorem zwc {X:Cx} (K:PySem.W.Frag) (h:X.K=K) {e:Expr} {f:Str} {pos:Pos} {ta:TE} (he:PE X e ta) (hb:attributeBase e f X.env (eval e X.env)=eval e X.env):PE X (.Attribute e f pos) (tFld K ta f):=h ▸ zbe he hb
theorem TrOk.curb {C:Cl} {H Hb:Hp} {D:TD} (h:TrOk C H D) (nd:(D.ns.map (·.nm)).Nodup) {n:ND} (hn:n∈D.ns) (s:Same H Hb) {dx:Addr} {fs:List (Str×V)} (hp:Hb n.p=some (.ins C.n dx fs)) (hf:FN fs (optS n.ab) (chV n.ch) n.rm (bkV n.bk) n.ql) (bk':Option (Addr×BkS)) (hb:∀ b,bk'=some b->Bk C.b Hb b.1 b.2.d b.2.r b.2.s b.2.l/\H b.1=none):TrOk C (upd Hb n.p (.ins C.n dx (putF "bucket" (bkV bk') fs))) { D with ns:=setN D.ns { n with bk:=bk' } }:=by
 have fn:=h.ndfoot hn
 have N:=(h.nd n hn).keep (H':=Hb) fun b o _ e=>s b o e
 have fn':=fn
 unfold ND.foot at fn'
 simp only [List.nodup_cons,List.mem_cons,List.mem_append,not_or,List.nodup_append] at fn'
 obtain ⟨⟨f1,f2,f3⟩,⟨f4,f5⟩,f6,f7,f8⟩:=fn'
 have kp:∀ b o,b≠n.p->Hb b=some o->upd Hb n.p (.ins C.n dx (putF "bucket" (bkV bk') fs)) b=some o:=fun b o q e=>by rw [zai q]; exact e
 have tp:∀ {b xs},Hb b=some (.tup xs)->b≠n.p:=fun {b xs} e z=>by rw [z,hp] at e; cases e
 have hs:∀ {b},b∈n.foot->∃ o,H b=some o:=fun {b} hb=>(h.nd n hn).at hb |>.imp fun _ z=>z.1
 refine h.node nd hn rfl rfl (fun b o nb e=>?_) ⟨⟨dx,_,zac,hf.put_bk⟩,⟨kp _ _ (Ne.symm f1) N.qu.hl,N.qu.r.keep fun p z hp=>kp _ _ (tp hp) hp⟩,fun c hc=>?_,fun b eb=>?_⟩ ?_ fun b hb'=>?_
 ·have q:b≠n.p:=fun z=>nb (by rw [z]; exact List.mem_cons_self ..)
  rw [zai q]
  exact s _ _ e
 ·refine (N.ch c hc).keep fun b o hb e=>kp b o ?_ e
  rcases hb with q | ⟨xs,q⟩
  ·exact fun z=>f2 (by rw [show n.ch=some c from hc]; exact z ▸ q)
  ·exact tp q
 ·obtain ⟨q1,q2⟩:=hb b eb
  obtain ⟨dx',fs',pr,pl,b1,b2,b3,b4⟩:=q1.ex
  have:b.1≠n.p:=fun z=>by
   obtain ⟨o,ho⟩:=hs (b:=n.p) (List.mem_cons_self ..)
   rw [z,ho] at q2; cases q2
  exact ⟨dx',fs',pr,pl,kp _ _ this b1,b2,kp _ _ (tp b3) b3,kp _ _ (tp b4) b4⟩
 ·show (n.p :: n.ql :: (chF n.ch++bkF bk')).Nodup
  cases bk' with
  | none =>
   show (n.p :: n.ql :: (chF n.ch++[])).Nodup
   rw [List.append_nil,List.nodup_cons,List.nodup_cons,List.mem_cons,not_or]
   exact ⟨⟨f1,f2⟩,f4,f6⟩
  | some b =>
   have q2:=(hb b rfl).2
   have nb:∀ {y},y∈n.foot->y≠b.1:=fun {y} hy z=>by
    obtain ⟨o,ho⟩:=hs hy
    rw [z,q2] at ho; cases ho
   have m1:n.p∈n.foot:=List.mem_cons_self ..
   have m2:n.ql∈n.foot:=List.mem_cons_of_mem _ (List.mem_cons_self ..)
   have m3:∀ y∈chF n.ch,y∈n.foot:=fun y hy=>List.mem_cons_of_mem _ (List.mem_cons_of_mem _ (List.mem_append.mpr (.inl hy)))
   show (n.p :: n.ql :: (chF n.ch++[b.1])).Nodup
   simp only [List.nodup_cons,List.mem_cons,List.mem_append,not_or,List.nodup_append,List.not_mem_nil,or_false,not_false_eq_true,List.nodup_nil,and_true]
   refine ⟨⟨f1,f2,nb m1⟩,⟨f4,nb m2⟩,f6,trivial,fun y hy z hz e=>?_⟩
   exact nb (m3 y hy) (e.trans hz)
 ·unfold ND.foot at hb' ⊢
  rcases List.mem_cons.mp hb' with z | hb'
  ·exact .inl (z ▸ List.mem_cons_self ..)
  rcases List.mem_cons.mp hb' with z | hb'
  ·exact .inl (z ▸ List.mem_cons_of_mem _ (List.mem_cons_self ..))
  rcases List.mem_append.mp hb' with z | z
  ·exact .inl (List.mem_cons_of_mem _ (List.mem_cons_of_mem _ (List.mem_append.mpr (.inl z))))
  ·right
   cases bk' with
   | none=>cases z
   | some b0=>rw [List.mem_singleton.mp z]; exact (hb b0 rfl).2
def TD.resh (D:TD) (un:ND) (c:At5×CSt) (x:Str) (s:Int):TD:={ D with ns:=setN D.ns { un with ch:=some (c.1,c.2.resh D.most x s) } }
theorem TD.Wf.resh {D:TD} (h:D.Wf) {un:ND} {c:At5×CSt} {x:Str} {s:Int} (hu:un∈D.ns) (hc:un.ch=some c) (hx:shOf c.2.nm x≠none) (s0:1<=s) (s1:s<=1000000):(D.resh un c x s).Wf:=by
 refine h.set hu rfl rfl ⟨fun z=>(by cases z),fun z=>(by rw [hc] at z; cases z)⟩ (fun d d' e1 e2=>?_) (fun d e=>?_)
 ·rw [hc] at e1
  cases e1
  cases e2
  show (c.2.resh D.most x s).nm.map (·.1) = _
  rw [CSt.nm_resh,Sw.fst_put]
 ·cases e
  exact (h.cok un hu c hc).resh hx s0 s1
def TD.curb (D:TD) (n:ND) (bk:Option (Addr×BkS)):TD:={ D with ns:=setN D.ns { n with bk:=bk } }
theorem TD.Wf.curb {D:TD} (h:D.Wf) {n:ND} (hn:n∈D.ns) (bk:Option (Addr×BkS)):(D.curb n bk).Wf:=h.set hn rfl rfl Iff.rfl (fun c c' e1 e2=>by rw [show n.ch=some c' from e2] at e1; cases e1; rfl) fun c e=>h.cok n hn c e
theorem TD.Wf.above {D:TD} (W:D.Wf) {x:Str} {n:ND} (nr:x≠road) (hx:fndN D.ns x=some n):∃ u c,n.ab=some u.nm/\u∈D.ns/\fndN D.ns u.nm=some u/\u.ch=some c/\shOf c.2.nm x≠none:=by
 obtain ⟨nin,ne⟩:=zcc hx
 cases h:n.ab with
 | none=>exact absurd (ne ▸ W.ra n nin h) nr
 | some y =>
  obtain ⟨ys,U,_⟩:=W.up n nin
  cases U with
  | top q1 q2=>rw [ne,hx] at q1; cases q1; rw [h] at q2; cases q2
  | on q1 q2 q3 =>
   rw [ne,hx] at q1; cases q1
   rw [h] at q2; cases q2
   obtain ⟨u,hu⟩:=q3.fnd
   obtain ⟨uin,ue⟩:=zcc hu
   subst ue
   have w:n.nm∈kids D.ns u.nm:=List.mem_map.mpr ⟨n,List.mem_filter.mpr ⟨nin,decide_eq_true h⟩,rfl⟩
   cases hc:u.ch with
   | none=>rw [W.lf u uin hc] at w; cases w
   | some c =>
    refine ⟨u,c,rfl,uin,hu,hc,?_⟩
    rw [Sw.sh_mem,W.kid u uin c hc,<- ne]
    exact w
end L2
namespace L2
open PySem PySem.Spec PyProof.Rows
section
variable {prog:Program} {w:World} {A:Around} {R:Result->Shared->Prop}
def zya (ns:List Int) (j:Nat) (buf:Array Value):Prop:=(j = 0/\buf = #[])\/∃ m t,buf = #[.int m t,.int m t]/\m∈ns.take j/\∀ n∈ns.take j,m<=n
def zut (ns:List Int) (d v:Value):Prop:=(ns = []/\v=d)\/∃ m t,v = .int m t/\m∈ns/\∀ n∈ns,m<=n
theorem ztr {l it S:Addr} {ns:List Int} {its:List Value} {d:Value} (hh:A.handled=none) (hli:l≠it) (hSi:S≠it) (hSl:S≠l) (rv:Vals (ns.map V.int) its) :
    ∀ (k j:Nat) (s:Shared) (buf:Array Value) (c:Nat),its.length-j=k->j<=its.length->s.heap.IsListIter it l j->s.heap.IsList l its.toArray->zya ns j buf ->
    s.heap.get? S=some { cls:=.type "list", dict:=none,data:=.seq buf c,slots:=#[] } ->
    (∀ v h' tk,zut ns d v->(∀ b o,b≠it->b≠S->s.heap.get? b=some o->h'.get? b=some o)->R (.ok (.ret v)) { s with heap:=h',toks:=tk }) ->
    codeAny (model prog w) A (.builtin "min.loop" ⟨[.ref it,.none,.ref S],[("default", d)]⟩) R s:=by
  have hlen:ns.length=its.length:=by have:=rv.length; rwa [List.length_map] at this
  have nm:(toString "min" ++ toString ".loop" : String) = "min.loop" := by decide
  intro k
  induction k with
  | zero =>
    intro j s buf c hk hj hit hls hb hbuf fin
    have ej:j=its.length:=by omega
    refine codeAny_builtin F.entry_min_loop ?_
    rw [Around.under_plainId F.plain_min_loop _]
    show wpAny _ A.in1 (seqItems? (.ref S) >>= _) _ _ s
    refine wpAny_bind (wpAny_seqItems hbuf rfl ?_)
    show wpAny _ A.in1 (tryCatch (pyNext (.ref it)) _ >>= _) _ _ s
    refine wpAny_bind (wpAny_tryCatch (wpAny_pyNext_list_end (A:=A.in1) hh hit hls (by simp [ej]) fun h' ek=>?_))
    have hb':=ek S _ hSi hbuf
    rcases hb with ⟨e0,rfl⟩ | ⟨m,t,rfl,hm,hall⟩
    · refine wpAny_bind (wpAny_rule (wpAny_pure ?_))
      refine fin d h' s.toks (.inl ⟨List.length_eq_zero_iff.mp (by omega),rfl⟩) fun b o n1 _ e=>ek b o n1 e
    · show wpAny _ A.in1 (updateSeq S (fun _=>#[]) >>= _) _ _ _
      refine wpAny_bind (wpAny_updateSeq hb' rfl (wpAny_bind (wpAny_letGo (wpAny_pure ?_))))
      rw [List.take_of_length_le (by omega)] at hm hall
      exact fin _ _ s.toks (.inr ⟨m,t,rfl,hm,hall⟩) fun b o n1 n2 e=>(Heap.get?_update_other _ _ (Ne.symm n2)).trans (ek b o n1 e)
  | succ k ih =>
    intro j s buf c hk hj hit hls hb hbuf fin
    have hlt:j<its.length:=by omega
    refine codeAny_builtin F.entry_min_loop ?_
    rw [Around.under_plainId F.plain_min_loop _]
    show wpAny _ A.in1 (seqItems? (.ref S) >>= _) _ _ s
    refine wpAny_bind (wpAny_seqItems hbuf rfl ?_)
    show wpAny _ A.in1 (tryCatch (pyNext (.ref it)) _ >>= _) _ _ s
    have hv:its.toArray[j]? = some its[j]:=by simp [hlt]
    refine wpAny_bind (wpAny_tryCatch (wpAny_pyNext_list_item hit hls hv fun h' hit' hs'=>?_))
    obtain ⟨n,t,en,ev⟩:=ztg rv hv
    rw [ev]
    have hb':=hs'.extBut S _ hSi hbuf
    have hls':h'.IsList l its.toArray:=hls.extBut hs'.extBut hli
    have step:∀ (m:Int) (tt:Tok) (s2:Shared) (c2:Nat),s2.heap.IsListIter it l (j+1)->s2.heap.IsList l its.toArray->s2.heap.get? S=some { cls:=.type "list", dict:=none,data:=.seq #[.int m tt,.int m tt] c2,slots:=#[] } ->
        m∈ns.take (j+1)->(∀ z∈ns.take (j+1),m<=z)->(∀ b o,b≠it->b≠S->s.heap.get? b=some o->s2.heap.get? b=some o)->s2.gens=s.gens->s2.drawn=s.drawn->s2.os=s.os ->
        codeAny (model prog w) A (.builtin "min.loop" ⟨[.ref it,.none,.ref S],[("default", d)]⟩) R s2:=fun m tt s2 c2 i1 i2 i3 i4 i5 i6 g1 g2 g3=>by
      refine ih (j+1) s2 _ c2 (by omega) hlt i1 i2 (.inr ⟨m,tt,rfl,i4,i5⟩) i3 fun v h'' tk'' r1 r2=>?_
      have:=fin v h'' tk'' r1 fun b o n1 n2 e=>r2 b o n1 n2 (i6 b o n1 n2 e)
      obtain ⟨q1,q2,q3,q4,q5⟩:=s2
      obtain ⟨p1,p2,p3,p4,p5⟩:=s
      cases g1; cases g2; cases g3
      exact this
    have etake:=zrs en
    have upd_keep:∀ (g:Obj->Obj) b o,b≠it->b≠S->s.heap.get? b=some o->(h'.update S g).get? b=some o:=fun g b o n1 n2 e=>(Heap.get?_update_other _ _ (Ne.symm n2)).trans (hs'.extBut b o n1 e)
    rcases hb with ⟨e0,rfl⟩ | ⟨m,t0,rfl,hm,hall⟩
    · show wpAny _ A.in1 (updateSeq S (fun _=>_) >>= _) _ _ _
      refine wpAny_bind (wpAny_updateSeq hb' rfl ?_)
      rw [nm]
      refine wpAny_pure ⟨plainId_quiet F.plain_min_loop _,step n t _ _ (hit'.at fun o e=>(Heap.get?_update_other _ _ hSi).trans e) (hls'.at fun o e=>(Heap.get?_update_other _ _ hSl).trans e) (Heap.get?_update_self _ hb' rfl) ?_ ?_ (upd_keep _) rfl rfl rfl⟩
      · rw [etake]; simp
      · rw [etake,e0]; simp
    · show wpAny _ A.in1 (tryCatch (holding [.int n t,.int n t] (richCompare .Lt (.int n t) (.int m t0) >>= _)) _ >>= _) _ _ _
      refine wpAny_bind (wpAny_tryCatch (wpAny_holding (wpAny_bind (richCompare_gives (op:=.Lt) (typeIs_int _ _ t) (typeIs_int _ _ t0) F.slot_int_lt F.entry_int_lt (F.args_int_lt_2 _ _) (gives_int_lt _ _ t t0) (fun x=>nomatch x) ?_))))
      refine wpAny_bind (wpAny_holding (wpAny_truthy_bool (wpAny_bind (wpAny_letGo (wpAny_pure ?_)))))
      by_cases hgt:n<m
      · simp only [hgt,decide_true,if_true]
        refine wpAny_bind (wpAny_updateSeq hb' rfl (wpAny_bind (wpAny_letGo ?_)))
        rw [nm]
        refine wpAny_pure ⟨plainId_quiet F.plain_min_loop _,step n t _ _ (hit'.at fun o e=>(Heap.get?_update_other _ _ hSi).trans e) (hls'.at fun o e=>(Heap.get?_update_other _ _ hSl).trans e) (Heap.get?_update_self _ hb' rfl) ?_ ?_ (upd_keep _) rfl rfl rfl⟩
        · rw [etake]; simp
        · rw [etake]
          intro z hz
          rcases List.mem_append.mp hz with hz | hz
          · have:=hall z hz; omega
          · have:z=n:=by simpa using hz
            omega
      · simp only [hgt,decide_false,Bool.false_eq_true,if_false]
        refine wpAny_bind (wpAny_letGo ?_)
        rw [nm]
        refine wpAny_pure ⟨plainId_quiet F.plain_min_loop _,step m t0 _ c hit' hls' hb' ?_ ?_ (fun b o n1 _ e=>hs'.extBut b o n1 e) rfl rfl rfl⟩
        · rw [etake]; exact List.mem_append_left _ hm
        · rw [etake]
          intro z hz
          rcases List.mem_append.mp hz with hz | hz
          · exact hall z hz
          · have:z=n:=by simpa using hz
            omega
theorem zsj (a d:Value):argsOk "min" ⟨[a],[("default", d)]⟩:=by unfold argsOk; kernel_rfl
theorem zsk {E:Value->Shared->Prop} {s:Shared} {l:Addr} {ns:List Int} {its:List Value} {d:Value} {Q:Value->Shared->Prop} (hh:A.handled=none) (hl:s.heap.IsList l its.toArray) (rv:Vals (ns.map V.int) its)
    (h:∀ v h' tk,zut ns d v->(∀ b o,s.heap.get? b=some o->h'.get? b=some o)->Q v { s with heap:=h',toks:=tk }) :
    wpAny (model prog w) A (call (.builtin "min") [.ref l] [("default", d)]) Q E s:=by
  have nm:(toString "min" ++ toString ".loop" : String) = "min.loop" := by decide
  refine wpAny_call (codeAny_call_builtin F.plain_min F.entry_min ?_)
  have ca:checkBuiltinCall "min" ⟨[.ref l],[("default", d)]⟩ = pure ():=by
    simp only [checkBuiltinCall,F.kind_min]
    cases hsig:Manifest.signature? "min" with
    | none=>rfl
    | some sig =>
      have ha:=zsj (.ref l) d
      simp only [argsOk,hsig] at ha
      exact ha
  rw [ca]
  refine wpAny_pure ?_
  show wpAny _ A.in1 (Builtin.Builtins.bindParams "min" ["key", "default"] 0 ⟨[],[("default", d)]⟩ >>= _) _ _ s
  refine wpAny_bind (wpAny_of_eq (show Builtin.Builtins.bindParams "min" ["key", "default"] 0 ⟨[],[("default", d)]⟩ = pure [none,some d] from rfl) ?_)
  refine wpAny_bind (wpAny_pure ?_)
  have hlt:l<s.heap.objs.size:=by obtain ⟨_,e,_⟩:=id hl; exact Heap.lt_size e
  refine wpAny_bind (wpAny_pyIter_list hl ?_)
  refine wpAny_bind (wpAny_newObj_type ?_)
  rw [nm]
  have kp:∀ (x y:Obj) b o,s.heap.get? b=some o->((s.heap.push x).push y).get? b=some o:=fun x y b o e=>Heap.get?_push_of_some _ (Heap.get?_push_of_some _ e)
  refine wpAny_pure ⟨plainId_quiet F.plain_min_loop _,?_⟩
  refine ztr (it:=s.heap.objs.size) (S:=(s.heap.push _).objs.size) hh (Nat.ne_of_lt hlt) (by rw [Heap.size_push]; exact Nat.succ_ne_self _) (by rw [Heap.size_push]; exact Nat.ne_of_gt (Nat.lt_succ_of_lt hlt)) rv its.length 0 _ #[] 0 rfl (Nat.zero_le _)
    ⟨_,Heap.get?_push_of_some _ (Heap.get?_push_size _ rfl),rfl,rfl⟩ (hl.at fun o e=>kp _ _ _ _ e) (.inl ⟨rfl,rfl⟩) (Heap.get?_push_size _ rfl) fun v h' tk r1 r2=>?_
  refine h v h' tk r1 fun b o e=>r2 b o (Nat.ne_of_lt (Heap.lt_size e)) (Nat.ne_of_lt ?_) (kp _ _ _ _ e)
  rw [Heap.size_push]; exact Nat.lt_succ_of_lt (Heap.lt_size e)
end
def tMinD (K:PySem.W.Frag) (t:TA) (td:TE):TE:=fun σ H Q=>t σ H fun xs H1=>td σ H1 fun y H2=>∃ (p:Addr) (ns:List Int),xs = [.ref p]/\SqL K H2 p (ns.map V.int)/\(ns = []->Q y H2)/\∀ m,m∈ns->(∀ n∈ns,m<=n)->Q (.int m) H2
theorem zwd {X:Cx} (K:PySem.W.Frag) (hK:X.K=K) (hc:X.calm=true) {l d:Expr} {t:TA} {td:TE} {p pos kpos:Pos} (hg:Gl X "min") (hm:X.mg "min" = none) (hl:PA X [l] t) (hd:PE X d td)
    (he:starEach [l] X.env = [(false,eval l X.env)]:=by rfl) :
    PE X (.Call (.Name "min" p) [l] [⟨some "default", d,kpos⟩] pos) (tMinD K t td):=by
  subst hK
  intro pins s σ H Q I h
  refine wpAny_Call_Name_kw (zlq I hg hm boot_min ?_)
  refine callWith_kw (he:=by rw [he]; rfl) (hplain:=by rw [he]; rfl) ?_
  refine thn (hl pos pins s σ H _ I h) fun us s1 ⟨xs,H1,I1,r1,q1⟩=>?_
  refine kws_cons (thn (hd pins s1 σ H1 _ I1 q1) fun y s2 ⟨yv,H2,I2,r2,q2⟩=>kws_nil ?_)
  obtain ⟨a,ns,rfl,hq,f0,fin⟩:=q2
  obtain ⟨u,rfl,ru⟩:=vals1 r1
  cases (show u=Value.ref a from ru)
  obtain ⟨its,rv,hp,hz⟩:=I2.list hq
  refine zsk (I2.ok.hd hc) hp.isList rv fun v h' tk r k=>?_
  rcases r with ⟨e,rfl⟩ | ⟨m,t3,rfl,e1,e2⟩
  · exact ⟨yv,H2,I2.kept (t':=tk) k,r2,f0 e⟩
  · exact ⟨.int m,H2,I2.kept (t':=tk) k,⟨_,rfl⟩,fin m e1 e2⟩
theorem zts {X:Cx} {e:Expr}:PE X e (fun _ _ _=>False):=fun _ _ _ _ _ _ h=>h.elim
end L2
namespace L2
open PySem PySem.Spec PyProof.Rows
section
variable {prog:Program} {w:World} {A:Around} {E:Value->Shared->Prop} {s:Shared}
theorem zha {b:Bool} {Q:Option Int->Shared->Prop} (h:Q (some (if b=true then 1 else 0)) s):wpAny (model prog w) A (Builtin.List.listSubscript? (.bool b)) Q E s:=by
 unfold Builtin.List.listSubscript?
 refine wpAny_bind (wpAny_specialOf (T := "bool") (PySem.typeIs_bool s b) F.slot_bool_index.lookup ?_)
 show wpAny _ A (asIndex (.bool b) >>= _) Q E s
 cases b with
 | true =>
  refine wpAny_bind (wpAny_of_eq (a:=(1:Int)) rfl ?_)
  exact wpAny_pure h
 | false =>
  refine wpAny_bind (wpAny_of_eq (a:=(0:Int)) rfl ?_)
  exact wpAny_pure h
theorem zhs {l:Addr} {items:Array Value} {b:Bool} {x:Value} {Q:Value->Shared->Prop} (hl:s.heap.IsList l items) (hx:items[b.toNat]? = some x) (h:Q x s):wpAny (model prog w) A (getItem (.ref l) (.bool b)) Q E s:=by
 obtain ⟨o,ho,hc,ne,hd⟩:=id hl
 unfold getItem
 try with_reducible refine wpAny_holding ?_
 first | refine wpAny_bind (wpAny_pure ?_) | skip
 refine wpAny_bind (wpAny_sequenceKey hl.typeIs (by decide) ?_)
 refine wpAny_bind (wpAny_callSpecial?_slot (name:=Str.ofString "__getitem__") hl.typeIs slot_list_getitem
  (wpAny_call_entry slot_list_getitem hl.typeIs entry_list_getitem ?_ (args_list_getitem _ _)))
 show wpAny _ _ (Builtin.List.listSubscript? (.bool b) >>= _) _ _ s
 refine wpAny_bind (zha ?_)
 cases b with
 | true =>
  show wpAny _ _ ((seqItemAt l 1 >>= fun r=>pure (r.map (1,·))) >>= _) _ _ s
  refine wpAny_bind (wpAny_bind (wpAny_seqItemAt ho hd (wpAny_pure ?_)))
  rw [show items[1]? = some x from hx]
  first
   | exact wpAny_bind (wpAny_pure (wpAny_pure ⟨x,rfl,wpAny_pure h⟩))
   | exact wpAny_pure ⟨x,rfl,wpAny_pure h⟩
 | false =>
  show wpAny _ _ ((seqItemAt l 0 >>= fun r=>pure (r.map (0,·))) >>= _) _ _ s
  refine wpAny_bind (wpAny_bind (wpAny_seqItemAt ho hd (wpAny_pure ?_)))
  rw [show items[0]? = some x from hx]
  first
   | exact wpAny_bind (wpAny_pure (wpAny_pure ⟨x,rfl,wpAny_pure h⟩))
   | exact wpAny_pure ⟨x,rfl,wpAny_pure h⟩
end
def rIxB (K:PySem.W.Frag):R2:=fun x y H Q=>∃ p xs b v,x = .ref p/\y = .bl b/\SqL K H p xs/\xs[b.toNat]? = some v/\Q v H
section
variable {X:Cx}
theorem zpm (K:PySem.W.Frag) (h:X.K=K):IxR X (rIxB K):=by
 subst h
 intro value slice pins s σ H x y v u Q I rx ry h hs
 obtain ⟨p,xs,b,z,rfl,rfl,hq,he,q⟩:=h
 cases rx
 cases ry
 obtain ⟨its,r,pl,hz⟩:=I.list hq
 obtain ⟨w,ew,rw'⟩:=r.get he
 have fin:EP X pins σ Q w s:=⟨z,H,I,rw',q⟩
 exact subscriptTail_builtinR (x:=w) pl.isList.typeIs slot_list_getitem.lookup (zhs (Q:=fun r s'=>r=w/\EP X pins σ Q r s') pl.isList (by simpa using ew) ⟨rfl,fin⟩) hs
theorem zuu {K:PySem.W.Frag} {H:Hp} {p:Addr} {xs:List V} {b:Bool} {v:V} {Q:VK} (hT:SqL K H p xs) (h:xs[b.toNat]? = some v) (q:Q v H):rIxB K (.ref p) (.bl b) H Q:=⟨p,xs,b,v,rfl,rfl,hT,h,q⟩
end
end L2
local macro_rules | `(tactic| walk_at "rd")=>`(tactic| try simp only [L2.tAsg,L2.tOp,L2.tUn,L2.gName,L2.tVar,L2.tC,L2.rI,L2.rI0,L2.rU,L2.rEq,L2.rNe,L2.scal,L2.tTest,L2.tIfS,L2.tRet,L2.tRetN,L2.tNext,L2.tDrop,L2.tCB,L2.tCons,L2.tNil,L2.tCall,L2.tAndV,L2.tOrV,L2.tNotV,L2.tAnd,L2.tOr,L2.tNot,L2.tB,L2.tIf,L2.tChain,L2.tTup,L2.tLst,L2.tBM,L2.tBM0,L2.tComp_eq,L2.tCallX,L2.tCallN,L2.tDGet,L2.tDGet1,L2.tDGet2,L2.sDPut,L2.tDIn,L2.tDNotIn,L2.tDSd,L2.tDNewK,L2.tTru,L2.tFld_eq,L2.sFld_eq,L2.tMethX_eq,L2.tMakeX,L2.tXmk,L2.tXmk1,L2.tRaise,L2.tTry,L2.tTryAs,L2.hkOf,L2.iList,L2.iTup,L2.iEnum,L2.iRng1,L2.iRng2,L2.iRng3,L2.iEnum1,L2.iRev,L2.tSl,L2.tPart,L2.tNoPart,L2.gTup,L2.gCons,L2.gNil,L2.spInt1,L2.spInt2,L2.spWhole,
 List.getElem?_cons_zero,List.getElem?_cons_succ,List.set_cons_zero,List.set_cons_succ,List.cons_append,List.nil_append,List.append_nil,Option.some.injEq,L2.V.int.injEq,L2.V.bl.injEq,L2.V.ref.injEq,L2.V.str.injEq,List.cons.injEq,exists_eq_left',exists_eq_left,exists_eq_right,exists_and_left,exists_and_right,and_true,true_and,and_self,exists_const,exists_eq,exists_eq',and_assoc,decide_eq_true_eq,Bool.not_eq_true',Bool.not_true,Bool.not_false,Bool.false_eq_true,Bool.true_eq_false,if_true,if_false,decide_eq_false_iff_not,ite_not,↓reduceIte,Int.reduceLT,Int.reduceLE,Int.reducePow,Int.reduceMul,Int.reduceAdd,Int.reduceSub,Int.reduceNeg,Int.reduceToNat,Int.reduceEq,Int.reduceNe,L2.CPow,L2.cmulL_lit,L2.line_lit,L2.line_lt,List.length_cons,List.length_nil,Nat.reduceAdd,Nat.zero_add,L2.cdivL_lit,Int.natAbs_natCast,Int.natAbs_neg,Nat.reducePow,Nat.reduceLT,Nat.reduceLeDiff,Int.natAbs,L2.tPar,ne_eq,not_false_eq_true,not_true_eq_false])
local macro_rules | `(tactic| walk_at "rds")=>`(tactic| try simp only [L2.tSeq,L2.tAsg,L2.tOp,L2.tUn,L2.gName,L2.tVar,L2.tC,L2.rI,L2.rI0,L2.rU,L2.rEq,L2.rNe,L2.scal,L2.tTest,L2.tIfS,L2.tRet,L2.tRetN,L2.tNext,L2.tDrop,L2.tCB,L2.tCons,L2.tNil,L2.tCall,L2.tAndV,L2.tOrV,L2.tNotV,L2.tAnd,L2.tOr,L2.tNot,L2.tB,L2.tIf,L2.tChain,L2.tTup,L2.tLst,L2.tBM,L2.tBM0,L2.tComp_eq,L2.tCallX,L2.tCallN,L2.tDGet,L2.tDGet1,L2.tDGet2,L2.sDPut,L2.tDIn,L2.tDNotIn,L2.tDSd,L2.tDNewK,L2.tTru,L2.tFld_eq,L2.sFld_eq,L2.tMethX_eq,L2.tMakeX,L2.tXmk,L2.tXmk1,L2.tRaise,L2.tTry,L2.tTryAs,L2.hkOf,L2.iList,L2.iTup,L2.iEnum,L2.iRng1,L2.iRng2,L2.iRng3,L2.iEnum1,L2.iRev,L2.tSl,L2.tPart,L2.tNoPart,L2.gTup,L2.gCons,L2.gNil,L2.spInt1,L2.spInt2,L2.spWhole,
 List.getElem?_cons_zero,List.getElem?_cons_succ,List.set_cons_zero,List.set_cons_succ,List.cons_append,List.nil_append,List.append_nil,Option.some.injEq,L2.V.int.injEq,L2.V.bl.injEq,L2.V.ref.injEq,L2.V.str.injEq,List.cons.injEq,exists_eq_left',exists_eq_left,exists_eq_right,exists_and_left,exists_and_right,and_true,true_and,and_self,exists_const,exists_eq,exists_eq',and_assoc,decide_eq_true_eq,Bool.not_eq_true',Bool.not_true,Bool.not_false,Bool.false_eq_true,Bool.true_eq_false,if_true,if_false,decide_eq_false_iff_not,ite_not,↓reduceIte,Int.reduceLT,Int.reduceLE,Int.reducePow,Int.reduceMul,Int.reduceAdd,Int.reduceSub,Int.reduceNeg,Int.reduceToNat,Int.reduceEq,Int.reduceNe,L2.CPow,L2.cmulL_lit,L2.line_lit,L2.line_lt,List.length_cons,List.length_nil,Nat.reduceAdd,Nat.zero_add,L2.cdivL_lit,Int.natAbs_natCast,Int.natAbs_neg,Nat.reducePow,Nat.reduceLT,Nat.reduceLeDiff,Int.natAbs,L2.tPar,ne_eq,not_false_eq_true,not_true_eq_false])
namespace K66
open PySem L2 PyProof.Rows
def top (i:Nat):Stmt:=PySem.Challenge.pw_sharewheel_k66_what_a_tree_refuses.main.body.getD i (.Pass ⟨0,0,0,0⟩)
abbrev zfj:Stmt:=top 15
abbrev zht:Stmt:=top 16
abbrev zhu:Stmt:=top 21
abbrev zdo:Stmt:=top 29
abbrev zeb:Stmt:=top 44
abbrev zfk:Stmt:=top 45
abbrev zec:Stmt:=top 46
abbrev zdg:Stmt:=top 50
abbrev zdp:Stmt:=top 51
abbrev zed:Stmt:=top 52
abbrev zep:Stmt:=top 53
abbrev zdq:Stmt:=top 54
abbrev zee:Stmt:=top 55
abbrev zeq:Stmt:=top 56
abbrev zdr:Stmt:=top 57
abbrev zer:Stmt:=top 58
abbrev zds:Stmt:=top 59
abbrev zef:Stmt:=top 60
abbrev zes:Stmt:=top 61
abbrev s_law:Stmt:=top 62
theorem sc_divisor:FnScope ["one", "other", "great", "small", "rest"] ["one", "other"] (zab zfj):=⟨rfl,rfl,rfl,by decide +kernel,rfl,by decide +kernel,by decide +kernel⟩
theorem sc_ratio:FnScope ["top", "bottom", "common"] ["top", "bottom"] (zab zht):=⟨rfl,rfl,rfl,by decide +kernel,rfl,by decide +kernel,by decide +kernel⟩
theorem ztt:FnScope ["one", "other"] ["one", "other"] (zab zhu):=⟨rfl,rfl,rfl,by decide +kernel,rfl,by decide +kernel,by decide +kernel⟩
theorem zjj:FnScope ["share"] ["share"] (zab zdo):=⟨rfl,rfl,rfl,by decide +kernel,rfl,by decide +kernel,by decide +kernel⟩
theorem zky:FnScope ["most"] ["most"] (zab zeb):=⟨rfl,rfl,rfl,by decide +kernel,rfl,by decide +kernel,by decide +kernel⟩
theorem zqj:FnScope ["text"] ["text"] (zab zfk):=⟨rfl,rfl,rfl,by decide +kernel,rfl,by decide +kernel,by decide +kernel⟩
theorem zkz:FnScope ["kind", "most"] ["kind", "most"] (zab zec):=⟨rfl,rfl,rfl,by decide +kernel,rfl,by decide +kernel,by decide +kernel⟩
theorem ziy:FnScope ["_law_script", "_law_k"] ["_law_script", "_law_k"] (zab zdg):=⟨rfl,rfl,rfl,by decide +kernel,rfl,by decide +kernel,by decide +kernel⟩
theorem sc__law_stream:FnScope ["_law_cell", "_law_many", "_law_found", "_law_number", "_law_k"] ["_law_cell", "_law_many"] (zab zdp):=⟨rfl,rfl,rfl,by decide +kernel,rfl,by decide +kernel,by decide +kernel⟩
theorem sc__law_share:FnScope ["_law_tree", "_law_name", "_law_share_here", "_law_told", "e"] ["_law_tree", "_law_name", "_law_share_here"] (zab zed):=⟨rfl,rfl,rfl,by decide +kernel,rfl,by decide +kernel,by decide +kernel⟩
theorem sc__law_curb:FnScope ["_law_tree", "_law_name", "_law_depth", "_law_rate", "_law_told", "e"] ["_law_tree", "_law_name", "_law_depth", "_law_rate"] (zab zep):=⟨rfl,rfl,rfl,by decide +kernel,rfl,by decide +kernel,by decide +kernel⟩
theorem sc__law_uncurb:FnScope ["_law_tree", "_law_name", "_law_told"] ["_law_tree", "_law_name"] (zab zdq):=⟨rfl,rfl,rfl,by decide +kernel,rfl,by decide +kernel,by decide +kernel⟩
theorem zla:FnScope ["_law_tree", "_law_name", "_law_which"] ["_law_tree", "_law_name", "_law_which"] (zab zee):=⟨rfl,rfl,rfl,by decide +kernel,rfl,by decide +kernel,by decide +kernel⟩
theorem zmx:FnScope ["_law_most", "_law_kind"] ["_law_most", "_law_kind"] (zab zeq):=⟨rfl,rfl,rfl,by decide +kernel,rfl,by decide +kernel,by decide +kernel⟩
theorem sc__law_lowest:FnScope ["_law_top", "_law_bottom", "_law_one", "_law_other"] ["_law_top", "_law_bottom"] (zab zdr):=⟨rfl,rfl,rfl,by decide +kernel,rfl,by decide +kernel,by decide +kernel⟩
theorem sc__law_part:FnScope ["_law_world", "_law_name", "_law_shares"] ["_law_world", "_law_name"] (zab zer):=⟨rfl,rfl,rfl,by decide +kernel,rfl,by decide +kernel,by decide +kernel⟩
theorem sc__law_stands:FnScope ["_law_tree", "_law_world", "_law_name", "_law_part_here", "_law_curbed", "_law_may"] ["_law_tree", "_law_world", "_law_name"] (zab zds):=⟨rfl,rfl,rfl,by decide +kernel,rfl,by decide +kernel,by decide +kernel⟩
theorem sc__law_built:FnScope ["_law_tree", "_law_cell", "_law_world", "_law_k", "_law_names", "_law_above", "_law_name", "_law_share_here"] ["_law_tree", "_law_cell"] (zab zef):=⟨rfl,rfl,rfl,by decide +kernel,rfl,by decide +kernel,by decide +kernel⟩
theorem sc__law_deed:FnScope ["_law_tree", "_law_world", "_law_name", "_law_xs", "_law_good", "_law_share_here", "_law_due", "_law_depth", "_law_rate"] ["_law_tree", "_law_world", "_law_name", "_law_xs"] (zab zes):=⟨rfl,rfl,rfl,by decide +kernel,rfl,by decide +kernel,by decide +kernel⟩
theorem sc_law:FnScope ["_law_script", "_law_cell", "_law_tree", "_law_world", "_law_xs", "_law_names", "_law_name", "_law_most", "_law_kind", "_law_due"] ["_law_script"] (zab s_law):=⟨rfl,rfl,rfl,by decide +kernel,rfl,by decide +kernel,by decide +kernel⟩
abbrev zbk:Stmt:=zas (top 26) 0
theorem zjk:FnScope ["self", "depth", "rate", "start"] ["self", "depth", "rate", "start"] (zab zbk):=⟨rfl,rfl,rfl,by decide +kernel,rfl,by decide +kernel,by decide +kernel⟩
abbrev zcp:Stmt:=zas (top 30) 0
theorem ziz:FnScope ["self"] ["self"] (zab zcp):=⟨rfl,rfl,rfl,by decide +kernel,rfl,by decide +kernel,by decide +kernel⟩
abbrev zbh:Stmt:=zas (top 30) 1
theorem zfy:FnScope ["self", "name"] ["self", "name"] (zab zbh):=⟨rfl,rfl,rfl,by decide +kernel,rfl,by decide +kernel,by decide +kernel⟩
abbrev zcw:Stmt:=zas (top 30) 2
theorem zjl:FnScope ["self", "name", "share"] ["self", "name", "share"] (zab zcw):=⟨rfl,rfl,rfl,by decide +kernel,rfl,by decide +kernel,by decide +kernel⟩
abbrev zbu:Stmt:=zas (top 30) 4
theorem zhb:FnScope ["self", "name", "share"] ["self", "name", "share"] (zab zbu):=⟨rfl,rfl,rfl,by decide +kernel,rfl,by decide +kernel,by decide +kernel⟩
abbrev zcv:Stmt:=zas (top 30) 5
abbrev zbo:Stmt:=zas (top 30) 6
theorem zgn:FnScope ["self", "name"] ["self", "name"] (zab zbo):=⟨rfl,rfl,rfl,by decide +kernel,rfl,by decide +kernel,by decide +kernel⟩
abbrev zbi:Stmt:=zas (top 30) 7
theorem zfz:FnScope ["self"] ["self"] (zab zbi):=⟨rfl,rfl,rfl,by decide +kernel,rfl,by decide +kernel,by decide +kernel⟩
abbrev zcq:Stmt:=zas (top 30) 8
theorem zja:FnScope ["self", "name"] ["self", "name"] (zab zcq):=⟨rfl,rfl,rfl,by decide +kernel,rfl,by decide +kernel,by decide +kernel⟩
abbrev zcx:Stmt:=zas (top 33) 0
theorem zjm:FnScope ["self", "most"] ["self", "most"] (zab zcx):=⟨rfl,rfl,rfl,by decide +kernel,rfl,by decide +kernel,by decide +kernel⟩
abbrev zcr:Stmt:=zas (top 33) 1
theorem zjb:FnScope ["self", "name"] ["self", "name"] (zab zcr):=⟨rfl,rfl,rfl,by decide +kernel,rfl,by decide +kernel,by decide +kernel⟩
abbrev zch:Stmt:=zas (top 33) 3
theorem zib:FnScope ["self", "name"] ["self", "name"] (zab zch):=⟨rfl,rfl,rfl,by decide +kernel,rfl,by decide +kernel,by decide +kernel⟩
abbrev zbl:Stmt:=zas (top 32) 0
theorem zge:FnScope ["self", "most"] ["self", "most"] (zab zbl):=⟨rfl,rfl,rfl,by decide +kernel,rfl,by decide +kernel,by decide +kernel⟩
abbrev zdl:Stmt:=zas (top 32) 1
theorem zlb:FnScope ["self", "name", "share"] ["self", "name", "share"] (zab zdl):=⟨rfl,rfl,rfl,by decide +kernel,rfl,by decide +kernel,by decide +kernel⟩
abbrev zbx:Stmt:=zas (top 32) 3
theorem zhv:FnScope ["self", "name", "share"] ["self", "name", "share"] (zab zbx):=⟨rfl,rfl,rfl,by decide +kernel,rfl,by decide +kernel,by decide +kernel⟩
abbrev zdh:Stmt:=zas (top 32) 4
abbrev zce:Stmt:=zas (top 32) 5
abbrev zcy:Stmt:=zas (top 32) 6
theorem zjn:FnScope ["self", "name"] ["self", "name"] (zab zcy):=⟨rfl,rfl,rfl,by decide +kernel,rfl,by decide +kernel,by decide +kernel⟩
abbrev zcz:Stmt:=zas (top 32) 9
theorem zjo:FnScope ["self", "name", "others", "shares", "reach", "behind"] ["self", "name"] (zab zcz):=⟨rfl,rfl,rfl,by decide +kernel,rfl,by decide +kernel,by decide +kernel⟩
abbrev zda:Stmt:=zas (top 34) 0
theorem zjp:FnScope ["self", "most"] ["self", "most"] (zab zda):=⟨rfl,rfl,rfl,by decide +kernel,rfl,by decide +kernel,by decide +kernel⟩
abbrev zcs:Stmt:=zas (top 34) 1
theorem zjc:FnScope ["self", "name"] ["self", "name"] (zab zcs):=⟨rfl,rfl,rfl,by decide +kernel,rfl,by decide +kernel,by decide +kernel⟩
abbrev zbp:Stmt:=zas (top 34) 3
theorem zgo:FnScope ["self", "name"] ["self", "name"] (zab zbp):=⟨rfl,rfl,rfl,by decide +kernel,rfl,by decide +kernel,by decide +kernel⟩
abbrev zci:Stmt:=zas (top 34) 4
theorem zic:FnScope ["self", "name"] ["self", "name"] (zab zci):=⟨rfl,rfl,rfl,by decide +kernel,rfl,by decide +kernel,by decide +kernel⟩
abbrev zbm:Stmt:=zas (top 32) 0
theorem zgf:FnScope ["self", "most"] ["self", "most"] (zab zbm):=⟨rfl,rfl,rfl,by decide +kernel,rfl,by decide +kernel,by decide +kernel⟩
abbrev zdm:Stmt:=zas (top 32) 1
theorem zlc:FnScope ["self", "name", "share"] ["self", "name", "share"] (zab zdm):=⟨rfl,rfl,rfl,by decide +kernel,rfl,by decide +kernel,by decide +kernel⟩
abbrev zby:Stmt:=zas (top 32) 3
theorem zhw:FnScope ["self", "name", "share"] ["self", "name", "share"] (zab zby):=⟨rfl,rfl,rfl,by decide +kernel,rfl,by decide +kernel,by decide +kernel⟩
abbrev zdi:Stmt:=zas (top 32) 4
abbrev zbv:Stmt:=zas (top 32) 5
theorem zhc:FnScope ["self", "name"] ["self", "name"] (zab zbv):=⟨rfl,rfl,rfl,by decide +kernel,rfl,by decide +kernel,by decide +kernel⟩
abbrev zdb:Stmt:=zas (top 32) 6
theorem zjq:FnScope ["self", "name"] ["self", "name"] (zab zdb):=⟨rfl,rfl,rfl,by decide +kernel,rfl,by decide +kernel,by decide +kernel⟩
abbrev zdc:Stmt:=zas (top 32) 9
theorem zjr:FnScope ["self", "name", "others", "shares", "reach", "behind"] ["self", "name"] (zab zdc):=⟨rfl,rfl,rfl,by decide +kernel,rfl,by decide +kernel,by decide +kernel⟩
abbrev zbz:Stmt:=zas (top 47) 0
theorem zmy:FnScope ["self", "above", "chooser", "room"] ["self", "above", "chooser", "room"] (zab zbz):=⟨rfl,rfl,rfl,by decide +kernel,rfl,by decide +kernel,by decide +kernel⟩
abbrev zca:Stmt:=zas (top 48) 0
theorem zmz:FnScope ["self", "most", "kind"] ["self", "most", "kind"] (zab zca):=⟨rfl,rfl,rfl,by decide +kernel,rfl,by decide +kernel,by decide +kernel⟩
abbrev zbq:Stmt:=zas (top 48) 1
theorem zgp:FnScope ["self", "name"] ["self", "name"] (zab zbq):=⟨rfl,rfl,rfl,by decide +kernel,rfl,by decide +kernel,by decide +kernel⟩
abbrev zbr:Stmt:=zas (top 48) 3
theorem zgq:FnScope ["self", "under", "kind"] ["self", "under", "kind"] (zab zbr):=⟨rfl,rfl,rfl,by decide +kernel,rfl,by decide +kernel,by decide +kernel⟩
abbrev zcn:Stmt:=zas (top 48) 4
theorem zod:FnScope ["self", "name", "under", "kind", "share", "room"] ["self", "name", "under", "kind", "share", "room"] (zab zcn):=⟨rfl,rfl,rfl,by decide +kernel,rfl,by decide +kernel,by decide +kernel⟩
abbrev zct:Stmt:=zas (top 48) 6
theorem zjd:FnScope ["self", "name", "share"] ["self", "name", "share"] (zab zct):=⟨rfl,rfl,rfl,by decide +kernel,rfl,by decide +kernel,by decide +kernel⟩
abbrev zdu:Stmt:=zas (top 48) 7
theorem zna:FnScope ["self", "name", "depth", "rate"] ["self", "name", "depth", "rate"] (zab zdu):=⟨rfl,rfl,rfl,by decide +kernel,rfl,by decide +kernel,by decide +kernel⟩
abbrev zdd:Stmt:=zas (top 48) 8
theorem zjs:FnScope ["self", "name"] ["self", "name"] (zab zdd):=⟨rfl,rfl,rfl,by decide +kernel,rfl,by decide +kernel,by decide +kernel⟩
abbrev zde:Stmt:=zas (top 48) 9
theorem zjt:FnScope ["self", "name"] ["self", "name"] (zab zde):=⟨rfl,rfl,rfl,by decide +kernel,rfl,by decide +kernel,by decide +kernel⟩
abbrev zdn:Stmt:=zas (top 48) 11
theorem sc_Tree_until:FnScope ["self", "at", "start"] ["self", "at"] (zab zdn):=⟨rfl,rfl,rfl,by decide +kernel,rfl,by decide +kernel,by decide +kernel⟩
abbrev zet:Stmt:=zas (top 48) 15
theorem zoe:FnScope ["self", "name"] ["self", "name"] (zab zet):=⟨rfl,rfl,rfl,by decide +kernel,rfl,by decide +kernel,by decide +kernel⟩
abbrev zeg:Stmt:=zas (top 48) 16
abbrev zdf:Stmt:=zas (top 48) 17
theorem zju:FnScope ["self", "name"] ["self", "name"] (zab zdf):=⟨rfl,rfl,rfl,by decide +kernel,rfl,by decide +kernel,by decide +kernel⟩
abbrev zdv:Stmt:=zas (top 48) 18
theorem znb:FnScope ["self", "name"] ["self", "name"] (zab zdv):=⟨rfl,rfl,rfl,by decide +kernel,rfl,by decide +kernel,by decide +kernel⟩
abbrev zdw:Stmt:=zas (top 48) 19
theorem znc:FnScope ["self", "name"] ["self", "name"] (zab zdw):=⟨rfl,rfl,rfl,by decide +kernel,rfl,by decide +kernel,by decide +kernel⟩
abbrev zbn:Stmt:=zas (top 48) 20
theorem zgg:FnScope ["self", "name"] ["self", "name"] (zab zbn):=⟨rfl,rfl,rfl,by decide +kernel,rfl,by decide +kernel,by decide +kernel⟩
abbrev zcb:Stmt:=zas (top 48) 21
theorem sc_Tree_from_road:FnScope ["self", "name", "names"] ["self", "name"] (zab zcb):=⟨rfl,rfl,rfl,by decide +kernel,rfl,by decide +kernel,by decide +kernel⟩
abbrev zbs:Stmt:=zas (top 48) 22
theorem zgr:FnScope ["self"] ["self"] (zab zbs):=⟨rfl,rfl,rfl,by decide +kernel,rfl,by decide +kernel,by decide +kernel⟩
abbrev zcj:Stmt:=zas (top 48) 24
theorem sc_Tree_ready_at:FnScope ["self", "at", "ready", "name", "one"] ["self", "at"] (zab zcj):=⟨rfl,rfl,rfl,by decide +kernel,rfl,by decide +kernel,by decide +kernel⟩
abbrev zbt:Stmt:=zas (top 48) 25
theorem sc_Tree_next_choice:FnScope ["self", "at"] ["self"] (zab zbt):=⟨rfl,rfl,rfl,by decide +kernel,rfl,by decide +kernel,by decide +kernel⟩
structure Txt (K:PySem.W.Frag) (mg:Str->Option Value) (c_WheelError:Addr) (c_NoName:Addr) (c_Taken:Addr) (c_NoClass:Addr) (c_NoPlace:Addr) (c_NoShare:Addr) (c_NoCurb:Addr) (c_NoLength:Addr) (c_TooEarly:Addr) (c_Bucket:Addr) (c_Members:Addr) (c_Chooser:Addr) (c_Starts:Addr) (c_Rounds:Addr) (c_Node:Addr) (c_Tree:Addr):Prop where
 mg_WheelError:mg "WheelError" = some (.ref c_WheelError)
 xc_WheelError:XC K c_WheelError
 kp_WheelError:PySem.W.keepIn K (.ref c_WheelError)=true
 ex_WheelError:PySem.W.excIn K c_WheelError bmV "ValueError.__new__" = true
 mg_NoName:mg "NoName" = some (.ref c_NoName)
 xc_NoName:XC K c_NoName
 kp_NoName:PySem.W.keepIn K (.ref c_NoName)=true
 ex_NoName:PySem.W.excIn K c_NoName bmV "ValueError.__new__" = true
 mg_Taken:mg "Taken" = some (.ref c_Taken)
 xc_Taken:XC K c_Taken
 kp_Taken:PySem.W.keepIn K (.ref c_Taken)=true
 ex_Taken:PySem.W.excIn K c_Taken bmV "ValueError.__new__" = true
 mg_NoClass:mg "NoClass" = some (.ref c_NoClass)
 xc_NoClass:XC K c_NoClass
 kp_NoClass:PySem.W.keepIn K (.ref c_NoClass)=true
 ex_NoClass:PySem.W.excIn K c_NoClass bmV "ValueError.__new__" = true
 mg_NoPlace:mg "NoPlace" = some (.ref c_NoPlace)
 xc_NoPlace:XC K c_NoPlace
 kp_NoPlace:PySem.W.keepIn K (.ref c_NoPlace)=true
 ex_NoPlace:PySem.W.excIn K c_NoPlace bmV "ValueError.__new__" = true
 mg_NoShare:mg "NoShare" = some (.ref c_NoShare)
 xc_NoShare:XC K c_NoShare
 kp_NoShare:PySem.W.keepIn K (.ref c_NoShare)=true
 ex_NoShare:PySem.W.excIn K c_NoShare bmV "ValueError.__new__" = true
 mg_NoCurb:mg "NoCurb" = some (.ref c_NoCurb)
 xc_NoCurb:XC K c_NoCurb
 kp_NoCurb:PySem.W.keepIn K (.ref c_NoCurb)=true
 ex_NoCurb:PySem.W.excIn K c_NoCurb bmV "ValueError.__new__" = true
 mg_NoLength:mg "NoLength" = some (.ref c_NoLength)
 xc_NoLength:XC K c_NoLength
 kp_NoLength:PySem.W.keepIn K (.ref c_NoLength)=true
 ex_NoLength:PySem.W.excIn K c_NoLength bmV "ValueError.__new__" = true
 mg_TooEarly:mg "TooEarly" = some (.ref c_TooEarly)
 xc_TooEarly:XC K c_TooEarly
 kp_TooEarly:PySem.W.keepIn K (.ref c_TooEarly)=true
 ex_TooEarly:PySem.W.excIn K c_TooEarly bmV "ValueError.__new__" = true
 sub_NoClass_NoClass:PySem.W.subIn K (.ref c_NoClass) (.ref c_NoClass)=some true
 sub_NoPlace_NoPlace:PySem.W.subIn K (.ref c_NoPlace) (.ref c_NoPlace)=some true
 sub_NoPlace_NoLength:PySem.W.subIn K (.ref c_NoPlace) (.ref c_NoLength)=some false
 kit_NoShare_WheelError:PySem.W.kitOne K (.ref c_NoShare) (.ref c_WheelError)=some true
 sub_NoShare_NoClass:PySem.W.subIn K (.ref c_NoShare) (.ref c_NoClass)=some false
 kit_NoShare_NoClass:PySem.W.kitOne K (.ref c_NoShare) (.ref c_NoClass)=some false
 sub_NoShare_NoShare:PySem.W.subIn K (.ref c_NoShare) (.ref c_NoShare)=some true
 kit_NoShare_NoCurb:PySem.W.kitOne K (.ref c_NoShare) (.ref c_NoCurb)=some false
 kit_NoCurb_WheelError:PySem.W.kitOne K (.ref c_NoCurb) (.ref c_WheelError)=some true
 sub_NoCurb_NoClass:PySem.W.subIn K (.ref c_NoCurb) (.ref c_NoClass)=some false
 kit_NoCurb_NoClass:PySem.W.kitOne K (.ref c_NoCurb) (.ref c_NoClass)=some false
 kit_NoCurb_NoShare:PySem.W.kitOne K (.ref c_NoCurb) (.ref c_NoShare)=some false
 sub_NoCurb_NoCurb:PySem.W.subIn K (.ref c_NoCurb) (.ref c_NoCurb)=some true
 sub_NoLength_NoLength:PySem.W.subIn K (.ref c_NoLength) (.ref c_NoLength)=some true
 ic_Starts:PySem.W.findIn K (.ref c_Starts) "__class__" = some (some (.builtin "object.__class__"))
 io_Starts:PySem.W.mroIn K c_Starts (.type "object")=some true
 kin_Starts_Chooser:PySem.W.kitOne K (.ref c_Starts) (.ref c_Chooser)=some true
 ic_Rounds:PySem.W.findIn K (.ref c_Rounds) "__class__" = some (some (.builtin "object.__class__"))
 io_Rounds:PySem.W.mroIn K c_Rounds (.type "object")=some true
 kin_Rounds_Chooser:PySem.W.kitOne K (.ref c_Rounds) (.ref c_Chooser)=some true
 ikg:PySem.W.specialIn K (.builtin "object.__class__") "__get__" = some (some (.builtin "getset_descriptor.__get__"))
 ikt:PySem.W.takesIn K (.builtin "object.__class__")=some true
 no_abs:mg "abs" = none
 no_all:mg "all" = none
 no_len:mg "len" = none
 no_range:mg "range" = none
 no_isinstance:mg "isinstance" = none
 no_sum:mg "sum" = none
 no_list:mg "list" = none
 no_min:mg "min" = none
 no_max:mg "max" = none
 mg_GREATEST_SHARE:∃ t,mg "GREATEST_SHARE" = some (.int 1000000 t)
 mg_GREATEST_LENGTH:∃ t,mg "GREATEST_LENGTH" = some (.int 1000000 t)
 mg_LETTERS:∃ t,mg "LETTERS" = some (.str (Str.ofString "abcdefghijklmnopqrstuvwxyz") t)
 mg_LONGEST_NAME:∃ t,mg "LONGEST_NAME" = some (.int 8 t)
 mg_ROAD:∃ t,mg "ROAD" = some (.str (Str.ofString "road") t)
 mg_INNER_KINDS:∃ a,mg "INNER_KINDS" = some (.ref a)/\∀ H,SqT K H a [.str (Str.ofString "starts"),.str (Str.ofString "rounds")]
 mg_LONGEST_WAY:∃ t,mg "LONGEST_WAY" = some (.int 5 t)
 mg_LEAF:∃ t,mg "LEAF" = some (.str (Str.ofString "leaf") t)
 mg_GREATEST_DEPTH:∃ t,mg "GREATEST_DEPTH" = some (.int 1000000000000 t)
 src_divisor:Src K mg "divisor" zfj ["one", "other"]
 src_ratio:Src K mg "ratio" zht ["top", "bottom"]
 src_under:Src K mg "under" zhu ["one", "other"]
 src_check_share:Src K mg "check_share" zdo ["share"]
 src_check_most:Src K mg "check_most" zeb ["most"]
 src_is_name:Src K mg "is_name" zfk ["text"]
 src_chooser_of:Src K mg "chooser_of" zec ["kind", "most"]
 src__law_cell_at:Src K mg "_law_cell_at" zdg ["_law_script", "_law_k"]
 src__law_stream:Src K mg "_law_stream" zdp ["_law_cell", "_law_many"]
 src__law_share:Src K mg "_law_share" zed ["_law_tree", "_law_name", "_law_share_here"]
 src__law_curb:Src K mg "_law_curb" zep ["_law_tree", "_law_name", "_law_depth", "_law_rate"]
 src__law_uncurb:Src K mg "_law_uncurb" zdq ["_law_tree", "_law_name"]
 src__law_asked:Src K mg "_law_asked" zee ["_law_tree", "_law_name", "_law_which"]
 src__law_made:Src K mg "_law_made" zeq ["_law_most", "_law_kind"]
 src__law_lowest:Src K mg "_law_lowest" zdr ["_law_top", "_law_bottom"]
 src__law_part:Src K mg "_law_part" zer ["_law_world", "_law_name"]
 src__law_stands:Src K mg "_law_stands" zds ["_law_tree", "_law_world", "_law_name"]
 src__law_built:Src K mg "_law_built" zef ["_law_tree", "_law_cell"]
 src__law_deed:Src K mg "_law_deed" zes ["_law_tree", "_law_world", "_law_name", "_law_xs"]
 mg_Bucket:mg "Bucket" = some (.ref c_Bucket)
 cl_Bucket:Cls K c_Bucket
 na_Bucket_depth:NoAttr K c_Bucket "depth"
 na_Bucket_rate:NoAttr K c_Bucket "rate"
 na_Bucket_since:NoAttr K c_Bucket "since"
 na_Bucket_left:NoAttr K c_Bucket "left"
 in_Bucket:SrcK K c_Bucket "Bucket.__init__" zbk ["self", "depth", "rate", "start"] [[],[V.int 0]]
 mg_Members:mg "Members" = some (.ref c_Members)
 cl_Members:Cls K c_Members
 na_Members_shares:NoAttr K c_Members "shares"
 in_Members:SrcK K c_Members "Members.__init__" zcp ["self"] [[]]
 me_Members_check_name:SrcM K c_Members "check_name" "Members.check_name" zbh ["self", "name"] [[]]
 me_Members_put:SrcM K c_Members "put" "Members.put" zcw ["self", "name", "share"] [[]]
 me_Members_reshare:SrcM K c_Members "reshare" "Members.reshare" zbu ["self", "name", "share"] [[]]
 me_Members_names:SrcM K c_Members "names" "Members.names" zcv ["self"] [[]]
 me_Members_share_of:SrcM K c_Members "share_of" "Members.share_of" zbo ["self", "name"] [[]]
 me_Members_all_shares:SrcM K c_Members "all_shares" "Members.all_shares" zbi ["self"] [[]]
 me_Members_part:SrcM K c_Members "part" "Members.part" zcq ["self", "name"] [[]]
 mg_Chooser:mg "Chooser" = some (.ref c_Chooser)
 mg_Starts:mg "Starts" = some (.ref c_Starts)
 cl_Starts:Cls K c_Starts
 na_Starts_reached:NoAttr K c_Starts "reached"
 na_Starts_tags:NoAttr K c_Starts "tags"
 na_Starts_greatest_steps:NoAttr K c_Starts "greatest_steps"
 na_Starts_most:NoAttr K c_Starts "most"
 na_Starts_members:NoAttr K c_Starts "members"
 na_Starts_chosen:NoAttr K c_Starts "chosen"
 in_Starts:SrcK K c_Starts "Starts.__init__" zcx ["self", "most"] [[]]
 me_Starts_enter:SrcM K c_Starts "enter" "Starts.enter" zcr ["self", "name"] [[]]
 me_Starts_fit_in:SrcM K c_Starts "fit_in" "Starts.fit_in" zch ["self", "name"] [[]]
 up_Starts_up_Chooser:SrcU K c_Chooser "__init__" "Chooser.__init__" zbl ["self", "most"]
 me_Starts_put:SrcM K c_Starts "put" "Chooser.put" zdl ["self", "name", "share"] [[]]
 me_Starts_reshare:SrcM K c_Starts "reshare" "Chooser.reshare" zbx ["self", "name", "share"] [[]]
 me_Starts_names:SrcM K c_Starts "names" "Chooser.names" zdh ["self"] [[]]
 me_Starts_share_of:SrcM K c_Starts "share_of" "Chooser.share_of" zce ["self", "name"] [[]]
 me_Starts_part:SrcM K c_Starts "part" "Chooser.part" zcy ["self", "name"] [[]]
 me_Starts_lack:SrcM K c_Starts "lack" "Chooser.lack" zcz ["self", "name"] [[]]
 mg_Rounds:mg "Rounds" = some (.ref c_Rounds)
 cl_Rounds:Cls K c_Rounds
 na_Rounds_queue:NoAttr K c_Rounds "queue"
 na_Rounds_rests:NoAttr K c_Rounds "rests"
 na_Rounds_turn:NoAttr K c_Rounds "turn"
 na_Rounds_most:NoAttr K c_Rounds "most"
 na_Rounds_members:NoAttr K c_Rounds "members"
 na_Rounds_chosen:NoAttr K c_Rounds "chosen"
 in_Rounds:SrcK K c_Rounds "Rounds.__init__" zda ["self", "most"] [[]]
 me_Rounds_enter:SrcM K c_Rounds "enter" "Rounds.enter" zcs ["self", "name"] [[]]
 me_Rounds_full_rest:SrcM K c_Rounds "full_rest" "Rounds.full_rest" zbp ["self", "name"] [[]]
 me_Rounds_fit_in:SrcM K c_Rounds "fit_in" "Rounds.fit_in" zci ["self", "name"] [[]]
 up_Rounds_up_Chooser:SrcU K c_Chooser "__init__" "Chooser.__init__" zbm ["self", "most"]
 me_Rounds_put:SrcM K c_Rounds "put" "Chooser.put" zdm ["self", "name", "share"] [[]]
 me_Rounds_reshare:SrcM K c_Rounds "reshare" "Chooser.reshare" zby ["self", "name", "share"] [[]]
 me_Rounds_names:SrcM K c_Rounds "names" "Chooser.names" zdi ["self"] [[]]
 me_Rounds_share_of:SrcM K c_Rounds "share_of" "Chooser.share_of" zbv ["self", "name"] [[]]
 me_Rounds_part:SrcM K c_Rounds "part" "Chooser.part" zdb ["self", "name"] [[]]
 me_Rounds_lack:SrcM K c_Rounds "lack" "Chooser.lack" zdc ["self", "name"] [[]]
 mg_Node:mg "Node" = some (.ref c_Node)
 cl_Node:Cls K c_Node
 na_Node_above:NoAttr K c_Node "above"
 na_Node_chooser:NoAttr K c_Node "chooser"
 na_Node_room:NoAttr K c_Node "room"
 na_Node_bucket:NoAttr K c_Node "bucket"
 na_Node_queue:NoAttr K c_Node "queue"
 in_Node:SrcK K c_Node "Node.__init__" zbz ["self", "above", "chooser", "room"] [[],[V.non]]
 mg_Tree:mg "Tree" = some (.ref c_Tree)
 cl_Tree:Cls K c_Tree
 na_Tree_most:NoAttr K c_Tree "most"
 na_Tree_nodes:NoAttr K c_Tree "nodes"
 na_Tree_time:NoAttr K c_Tree "time"
 na_Tree_free:NoAttr K c_Tree "free"
 na_Tree_counted:NoAttr K c_Tree "counted"
 na_Tree_gone:NoAttr K c_Tree "gone"
 in_Tree:SrcK K c_Tree "Tree.__init__" zca ["self", "most", "kind"] [[],[V.str (Str.ofString "starts")]]
 me_Tree_check_class:SrcM K c_Tree "check_class" "Tree.check_class" zbq ["self", "name"] [[]]
 me_Tree_check_place:SrcM K c_Tree "check_place" "Tree.check_place" zbr ["self", "under", "kind"] [[]]
 me_Tree_put:SrcM K c_Tree "put" "Tree.put" zcn ["self", "name", "under", "kind", "share", "room"] [[],[V.non]]
 me_Tree_reshare:SrcM K c_Tree "reshare" "Tree.reshare" zct ["self", "name", "share"] [[]]
 me_Tree_curb:SrcM K c_Tree "curb" "Tree.curb" zdu ["self", "name", "depth", "rate"] [[]]
 me_Tree_uncurb:SrcM K c_Tree "uncurb" "Tree.uncurb" zdd ["self", "name"] [[]]
 me_Tree_curbed:SrcM K c_Tree "curbed" "Tree.curbed" zde ["self", "name"] [[]]
 me_Tree_until:SrcM K c_Tree "until" "Tree.until" zdn ["self", "at"] [[]]
 me_Tree_way:SrcM K c_Tree "way" "Tree.way" zet ["self", "name"] [[]]
 me_Tree_below:SrcM K c_Tree "below" "Tree.below" zeg ["self", "name"] [[]]
 me_Tree_may_go:SrcM K c_Tree "may_go" "Tree.may_go" zdf ["self", "name"] [[]]
 me_Tree_part:SrcM K c_Tree "part" "Tree.part" zdv ["self", "name"] [[]]
 me_Tree_lack:SrcM K c_Tree "lack" "Tree.lack" zdw ["self", "name"] [[]]
 me_Tree_chooser_over:SrcM K c_Tree "chooser_over" "Tree.chooser_over" zbn ["self", "name"] [[]]
 me_Tree_from_road:SrcM K c_Tree "from_road" "Tree.from_road" zcb ["self", "name"] [[]]
 me_Tree_full_leaves:SrcM K c_Tree "full_leaves" "Tree.full_leaves" zbs ["self"] [[]]
 me_Tree_ready_at:SrcM K c_Tree "ready_at" "Tree.ready_at" zcj ["self", "at"] [[]]
 me_Tree_next_choice:SrcM K c_Tree "next_choice" "Tree.next_choice" zbt ["self"] [[]]
section
variable {P:Program} {w:World} {K:PySem.W.Frag} {mg:Str->Option Value} {base:Heap} {c_WheelError c_NoName c_Taken c_NoClass c_NoPlace c_NoShare c_NoCurb c_NoLength c_TooEarly c_Bucket c_Members c_Chooser c_Starts c_Rounds c_Node c_Tree:Addr}
local macro_rules | `(tactic| walk_at "rdc")=>`(tactic| (walk_at "rd"; (try simp only [L2.tDPop1,L2.tClsX]); walk_at "rd"))
theorem zsl (T:Txt K mg c_WheelError c_NoName c_Taken c_NoClass c_NoPlace c_NoShare c_NoCurb c_NoLength c_TooEarly c_Bucket c_Members c_Chooser c_Starts c_Rounds c_Node c_Tree):Def P w K mg base (CXX P w) 1 "divisor" ["one", "other"] (spInt2 Sw.dv):=by
 refine T.src_divisor.okN (k:=0) sc_divisor (fun vs H Q E h=>?_) (fun f cdv A outer s H vs Q E hr h=>?_)
 ·obtain ⟨a,b,rfl,_⟩:=h
  rfl
 ·obtain ⟨a,b,rfl,k⟩:=h
  refine ⟨_,(zad (zbd (i:=2) sc_divisor.nd rfl (by first|left;rfl|right;rfl) (zck zop rfl T.no_abs boot_abs (zaa (pv 0) zag))) (zad (zbd (i:=3) sc_divisor.nd rfl (by first|left;rfl|right;rfl) (zck zop rfl T.no_abs boot_abs (zaa (pv 1) zag))) (zad (zif PassesOwn.never (zay op_ne (pv 3) zah (zbc _)) (zad (zbd (i:=4) sc_divisor.nd rfl (by first|left;rfl|right;rfl) (pe_op zcm (pv 2) (pv 3))) (zad (zbd (i:=2) sc_divisor.nd rfl (by first|left;rfl|right;rfl) (pv 3)) (zaf (zbd (i:=3) sc_divisor.nd rfl (by first|left;rfl|right;rfl) (pv 4)))))) (zaf (zax (pv 2)))))),?_⟩
  refine ⟨_,rfl,a,rfl,?_⟩
  refine ⟨_,rfl,b,rfl,?_⟩
  refine zmh (fun σ H'=>H'=H/\∃ g s r,σ = [some (.int a),some (.int b),some (.int g),some (.int s),r]/\0<=g/\0<=s/\Sw.dv g s=Sw.dv a b)
   (fun σ _=>match σ with | [_,_,_,some (.int s),_]=>s.toNat | _=>0) ⟨rfl,_,_,none,rfl,?_,?_,Sw.dv_abs a b⟩ ?_
  ·split <;> omega
  ·split <;> omega
  ·rintro σ H' ⟨rfl,g,s,r,rfl,hg,hs,e⟩
   refine ⟨!decide (V.int s=V.int 0),fun Q hQ=>⟨_,rfl,rfl,_,rfl,hQ⟩,fun hb=>?_,fun hb=>?_⟩
   ·have hs0:s≠0:=by intro z; subst z; simp at hb
    have hsp:0<s:=by omega
    refine ⟨_,rfl,_,rfl,_,_,rfl,rfl,hsp,?_⟩
    refine ⟨_,rfl,?_⟩
    refine ⟨_,rfl,?_⟩
    refine ⟨⟨rfl,s,g % s,_,rfl,hs,Int.emod_nonneg g hs0,by rw [Sw.dv_step]; exact e⟩,?_⟩
    show (g % s).toNat<s.toNat
    have:=Int.emod_lt_of_pos g hsp
    have:=Int.emod_nonneg g hs0
    omega
   ·have hs0:s = 0:=by
     have:V.int s=V.int 0:=by simpa using hb
     exact V.int.inj this
    subst hs0
    rw [Sw.dv_zero g hg] at e
    refine ⟨_,rfl,?_⟩
    show Q (.int g) H'
    rw [e]; exact k
def spRat:Sp:=fun vs H Q _=>∃ t b z,vs = [.int t,.int b]/\z<=5000/\Sw.Sz z b/\(b≠0->∀ p,H p=none->Q (.ref p) (upd H p (.tup (fq ((t:Rat) / (b:Rat))))))/\(b = 0->False)
theorem zld (T:Txt K mg c_WheelError c_NoName c_Taken c_NoClass c_NoPlace c_NoShare c_NoCurb c_NoLength c_TooEarly c_Bucket c_Members c_Chooser c_Starts c_Rounds c_Node c_Tree):Def P w K mg base (CXX P w) 2 "ratio" ["top", "bottom"] spRat:=by
 have D_divisor:=zsl (P:=P) (w:=w) (base:=base) T
 refine T.src_ratio.okN (k:=1) sc_ratio (fun vs H Q E h=>?_) (fun f cdv A outer s H vs Q E hr h=>?_)
 ·obtain ⟨t,b,z,rfl,_⟩:=h
  rfl
 ·obtain ⟨t,b,z,rfl,z5,sb,k,hb⟩:=h
  refine ⟨_,(zad (ps_if (zay op_eq (pv 1) zah (zbc _)) (zaf zkk) zaw) (zad (zbd (i:=2) sc_ratio.nd rfl (by first|left;rfl|right;rfl) (zba D_divisor (hr.mono (by decide)) rfl passN (zaa (pv 0) (zaa (pv 1) zag)))) (zad (ps_if (zay op_lt (pv 1) zah (zbc _)) (zaf (zbd (i:=2) sc_ratio.nd rfl (by first|left;rfl|right;rfl) (pe_un zlu (pv 2)))) zaw) (zaf (zax (zgi (zaa (pe_op zor (pv 0) (pv 2)) (zaa (pe_op zor (pv 1) (pv 2)) zag)))))))),?_⟩
  show tSeq _ _ _ [some (.int t),some (.int b),none] H
  refine zae fun R hR=>?_
  walk_at "rd"
  refine iteN hb (hR _ _ ?_)
  have k:=k hb
  rw [<- zuo hb] at k
  have hg:0<Sw.dv t b:=Sw.dv_pos hb
  have hz:Sw.Sz 5000 (Sw.dv t b):=(sb.dvd (Sw.dv_r t b) hb).mono z5
  refine zae fun R hR=>?_
  walk_at "rd"
  refine hR _ _ ?_
  refine zae fun R hR=>?_
  have fin:∀ c:Int,(c=Sw.dv t b/\¬ b<0)\/(c = -(Sw.dv t b)/\b<0)->R [some (.int t),some (.int b),some (.int c)] H:=fun c hc=>by
   refine hR _ _ ?_
   walk_at "rd"
   have c0:c≠0:=by rcases hc with ⟨e,_⟩ | ⟨e,_⟩ <;> omega
   have cz:Sw.Sz 5000 c:=by
    rcases hc with ⟨e,_⟩ | ⟨e,_⟩
    ·rw [e]; exact hz
    ·rw [e]; exact hz.neg
   have d1:c ∣ t:=by
    rcases hc with ⟨e,_⟩ | ⟨e,_⟩
    ·rw [e]; exact Sw.dv_l t b
    ·rw [e]; exact Int.neg_dvd.mpr (Sw.dv_l t b)
   have d2:c ∣ b:=by
    rcases hc with ⟨e,_⟩ | ⟨e,_⟩
    ·rw [e]; exact Sw.dv_r t b
    ·rw [e]; exact Int.neg_dvd.mpr (Sw.dv_r t b)
   have e1:t.fdiv c=Sw.rN t b:=by
    rw [Int.fdiv_eq_ediv_of_dvd d1]
    unfold Sw.rN
    rcases hc with ⟨e,q⟩ | ⟨e,q⟩
    ·rw [if_neg q,e]
    ·rw [if_pos q,e]
   have e2:b.fdiv c=Sw.rD t b:=by
    rw [Int.fdiv_eq_ediv_of_dvd d2]
    unfold Sw.rD
    rcases hc with ⟨e,q⟩ | ⟨e,q⟩
    ·rw [if_neg q,e]
    ·rw [if_pos q,e]
   rw [e1,e2]
   exact ⟨⟨c0,cz⟩,⟨c0,cz⟩,k⟩
  simp only [L2.tSeq]
  walk_at "rd"
  exact ite2 (fun c=>fin _ (.inr ⟨rfl,c⟩)) fun c=>fin _ (.inl ⟨rfl,c⟩)
def zwe:Sp:=fun vs H Q _=>∃ p q a b,vs = [.ref p,.ref q]/\H p=some (.tup (fq a))/\H q=some (.tup (fq b))/\Sw.SzQ 5000 a/\Sw.SzQ 5000 b/\Q (.bl (decide (a<b))) H
theorem zwf (T:Txt K mg c_WheelError c_NoName c_Taken c_NoClass c_NoPlace c_NoShare c_NoCurb c_NoLength c_TooEarly c_Bucket c_Members c_Chooser c_Starts c_Rounds c_Node c_Tree):Def P w K mg base (CXX P w) 1 "under" ["one", "other"] zwe:=by
 refine T.src_under.okN (k:=0) ztt (fun vs H Q E h=>?_) (fun f cdv A outer s H vs Q E hr h=>?_)
 ·obtain ⟨p,q,a,b,rfl,_⟩:=h
  rfl
 ·obtain ⟨p,q,a,b,rfl,hp,hq,s1,s2,k⟩:=h
  refine ⟨_,(zaf (zax (zei op_lt (pe_op zhj (pe_ix (zhl K rfl) (pv 0) zah (fun _ _=>rfl)) (pe_ix (zhl K rfl) (pv 1) zah (fun _ _=>rfl))) (pe_op zhj (pe_ix (zhl K rfl) (pv 1) zah (fun _ _=>rfl)) (pe_ix (zhl K rfl) (pv 0) zah (fun _ _=>rfl))) (zbc _)))),?_⟩
  show tRet _ _ [some (.ref p),some (.ref q)] H
  walk_at "rd"
  refine zkf (.of hp) rfl (zkf (.of hq) rfl ?_)
  walk_at "rd"
  refine ⟨⟨s1.n,s2.d⟩,zkf (.of hq) rfl (zkf (.of hp) rfl ?_)⟩
  walk_at "rd"
  refine ⟨⟨s2.n,s1.d⟩,?_⟩
  rw [show decide (a.num*(b.den:Int)<b.num*(a.den:Int))=decide (a<b) from decide_eq_decide.mpr Sw.q_lt]
  exact k
abbrev Rs (c:Addr) (H:Hp) (E:XK):Prop:=∀ e,H e=none->E (.ref e) none (upd H e (excO e c none false))
theorem rs_of {c:Addr} {H:Hp} {E:XK} (kx:Rs c H E) (xc:XC K c):∀ e,H e=none->∃ x x1,upd H e (excO e c none true) e=some (excO e x x1 true)/\XC K x/\E (.ref e) x1 (upd (upd H e (excO e c none true)) e (excO e x x1 false)):=fun e he=>⟨c,none,zac,xc,by rw [zeh]; exact kx e he⟩
def spChk (cS:Addr):Sp:=fun vs H Q E=>∃ s,vs = [.int s]/\(1<=s/\s<=1000000->Q .non H)/\(¬ (1<=s/\s<=1000000)->Rs cS H E)
theorem zfr (T:Txt K mg c_WheelError c_NoName c_Taken c_NoClass c_NoPlace c_NoShare c_NoCurb c_NoLength c_TooEarly c_Bucket c_Members c_Chooser c_Starts c_Rounds c_Node c_Tree):Def P w K mg base (CXX P w) 1 "check_share" ["share"] (spChk c_NoShare):=by
 refine T.src_check_share.okX (k:=0) zjj (fun vs H Q E h=>?_) (fun f cdv A outer s H vs Q E hr h=>?_)
 ·obtain ⟨s,rfl,_⟩:=h
  rfl
 ·obtain ⟨s,rfl,k,kx⟩:=h
  refine ⟨_,(zaf (ps_if (zim (zkl op_le op_le zah (pv 0) (zgu rfl T.mg_GREATEST_SHARE))) (zaf (zcl K rfl rfl zem (zen T.ex_NoShare T.kp_NoShare rfl T.mg_NoShare (zaa zaq zag)))) zaw)),?_⟩
  show tIfS _ _ _ _ [some (.int s)] H
  walk_at "rd"
  refine ite2 (fun c1=>ite2 (fun c2=>k ⟨c1,c2⟩) fun c2=>?_) fun c1=>?_
  ·exact rs_of (kx fun z=>c2 z.2) T.xc_NoShare
  ·exact rs_of (kx fun z=>c1 z.1) T.xc_NoShare
def spMI (C:Addr):Sp:=fun vs H Q _=>∃ x dx,vs = [.ref x]/\H x=some (.ins C dx [])/\∀ psh H',But x H H'->H psh=none->Mb C H' x psh []->Q .non H'
theorem znd (T:Txt K mg c_WheelError c_NoName c_Taken c_NoClass c_NoPlace c_NoShare c_NoCurb c_NoLength c_TooEarly c_Bucket c_Members c_Chooser c_Starts c_Rounds c_Node c_Tree):MkD P w K mg base (CXX P w) 1 c_Members ["self"] [[]] (spMI c_Members):=by
 refine T.in_Members.okN (k:=0) ziz (fun vs H Q E h=>?_) (fun f cdv A outer s H vs Q E hr h=>?_)
 ·obtain ⟨x,dx,rfl,_⟩:=h
  rfl
 ·obtain ⟨x,dx,rfl,hx,k⟩:=h
  refine ⟨_,(zaf (zcf (pv 0) zgb rfl)),?_⟩
  show (_:TS) _ [some (.ref x)] H
  walk_at "rd"
  intro psh hpsh
  have nx:psh≠x:=fun z=>by rw [z,hx] at hpsh; cases hpsh
  have sn:=zak (o:=.dK []) hpsh
  refine zcg (sn _ _ hx) T.cl_Members T.na_Members_shares (by simp) ?_
  refine k psh _ (fun b o n e=>?_) hpsh ⟨⟨dx,putF "shares" (.ref psh) [],zac,?_,fun m hm=>?_,?_⟩,?_⟩
  ·rw [zai n]; exact sn _ _ e
  ·rw [zbb,if_pos rfl]
  ·rw [zbb,if_neg hm]; rfl
  ·have:=zan (fs:=[]) (f := "shares") (v:=.ref psh)
   simp only [List.length_nil] at this
   omega
  ·rw [zai nx]; exact zac
def spCk (cC C:Addr):Sp:=fun vs H Q E=>∃ p psh nm x,vs = [.ref p,.str x]/\Mb C H p psh nm/\(shOf nm x≠none->Q .non H)/\(shOf nm x=none->Rs cC H E)
theorem zex (T:Txt K mg c_WheelError c_NoName c_Taken c_NoClass c_NoPlace c_NoShare c_NoCurb c_NoLength c_TooEarly c_Bucket c_Members c_Chooser c_Starts c_Rounds c_Node c_Tree):MethD P w K mg base (CXX P w) 1 c_Members "check_name" ["self", "name"] [[]] (spCk c_NoClass c_Members):=by
 refine T.me_Members_check_name.okX (k:=0) zfy (fun vs H Q E h=>?_) (fun f cdv A outer s H vs Q E hr h=>?_)
 ·obtain ⟨p,psh,nm,x,rfl,_⟩:=h
  rfl
 ·obtain ⟨p,psh,nm,x,rfl,M,k,kx⟩:=h
  refine ⟨_,(zaf (ps_if (zjz (zgv (hu_of hr) (pv 1) (zbe (pv 0) rfl))) (zaf (zcl K rfl rfl zem (zen T.ex_NoClass T.kp_NoClass rfl T.mg_NoClass (zaa zaq zag)))) zaw)),?_⟩
  show tIfS _ _ _ _ [some (.ref p),some (.str x)] H
  obtain ⟨dx,fs,hp,hf,hno,hlen⟩:=M.ex
  walk_at "rd"
  refine zar hp T.cl_Members T.na_Members_shares hf ?_
  walk_at "rd"
  refine ⟨_,DGet.k (k:=Sum.inr x) M.hs,?_⟩
  rw [zhq]
  cases e:shOf nm x with
  | none=>exact rs_of (kx e) T.xc_NoClass
  | some v=>exact k (by rw [e]; simp)
def zyb (cT cS C:Addr):Sp:=fun vs H Q E=>∃ p psh nm x s,vs = [.ref p,.str x,.int s]/\Mb C H p psh nm/\nm.length<900/\(shOf nm x≠none->Rs cT H E)/\(shOf nm x=none->¬ (1<=s/\s<=1000000)->Rs cS H E)/\(shOf nm x=none->1<=s/\s<=1000000->Q .non (upd H psh (.dK (kvsOf (nm++[(x,s)])))))
theorem zhd (T:Txt K mg c_WheelError c_NoName c_Taken c_NoClass c_NoPlace c_NoShare c_NoCurb c_NoLength c_TooEarly c_Bucket c_Members c_Chooser c_Starts c_Rounds c_Node c_Tree):MethD P w K mg base (CXX P w) 2 c_Members "put" ["self", "name", "share"] [[]] (zyb c_Taken c_NoShare c_Members):=by
 have D_check_share:=zfr (P:=P) (w:=w) (base:=base) T
 refine T.me_Members_put.okX (k:=1) zjl (fun vs H Q E h=>?_) (fun f cdv A outer s H vs Q E hr h=>?_)
 ·obtain ⟨p,psh,nm,x,s,rfl,_⟩:=h
  rfl
 ·obtain ⟨p,psh,nm,x,s,rfl,M,hn,kt,ks,k⟩:=h
  refine ⟨_,(zad (ps_if (zjz (zpd (hu_of hr) (pv 1) (zbe (pv 0) rfl))) (zaf (zcl K rfl rfl zem (zen T.ex_Taken T.kp_Taken rfl T.mg_Taken (zaa zaq zag)))) zaw) (zad (zbg (zba D_check_share (hr.mono (by decide)) rfl passF (zaa (pv 2) zag))) (zaf (zfx (hu_of hr) (zbe (pv 0) rfl) (pv 1) (pv 2) rfl)))),?_⟩
  show tSeq _ _ _ [some (.ref p),some (.str x),some (.int s)] H
  obtain ⟨dx,fs,hp,hf,hno,hlen⟩:=M.ex
  refine zae fun R hR=>?_
  walk_at "rd"
  refine zar hp T.cl_Members T.na_Members_shares hf ?_
  walk_at "rd"
  refine ⟨_,DGet.k (k:=Sum.inr x) M.hs,?_⟩
  rw [zhq]
  cases hx:shOf nm x with
  | some v=>exact rs_of (kt (by rw [hx]; simp)) T.xc_Taken
  | none =>
   refine hR _ _ ?_
   refine zae fun R hR=>?_
   walk_at "rd"
   refine ⟨s,rfl,fun c=>hR _ _ ?_,fun c=>ks hx c⟩
   walk_at "rd"
   refine zar hp T.cl_Members T.na_Members_shares hf ?_
   walk_at "rd"
   refine ⟨_,DPut.k (k:=Sum.inr x) M.hs (line_lt (by rw [zgx]; omega)),?_⟩
   rw [zpf hx]
   exact k hx c
def zwg (cC cS C:Addr):Sp:=fun vs H Q E=>∃ p psh nm x s,vs = [.ref p,.str x,.int s]/\Mb C H p psh nm/\nm.length<900/\(shOf nm x=none->Rs cC H E)/\(shOf nm x≠none->¬ (1<=s/\s<=1000000)->Rs cS H E)/\(shOf nm x≠none->1<=s/\s<=1000000->Q .non (upd H psh (.dK (kvsOf (putN nm x s)))))
theorem zfl (T:Txt K mg c_WheelError c_NoName c_Taken c_NoClass c_NoPlace c_NoShare c_NoCurb c_NoLength c_TooEarly c_Bucket c_Members c_Chooser c_Starts c_Rounds c_Node c_Tree):MethD P w K mg base (CXX P w) 2 c_Members "reshare" ["self", "name", "share"] [[]] (zwg c_NoClass c_NoShare c_Members):=by
 have D_check_share:=zfr (P:=P) (w:=w) (base:=base) T
 have M_Members_check_name:=zex (P:=P) (w:=w) (base:=base) T
 refine T.me_Members_reshare.okX (k:=1) zhb (fun vs H Q E h=>?_) (fun f cdv A outer s H vs Q E hr h=>?_)
 ·obtain ⟨p,psh,nm,x,s,rfl,_⟩:=h
  rfl
 ·obtain ⟨p,psh,nm,x,s,rfl,M,hn,kc,ks,k⟩:=h
  refine ⟨_,(zad (zbg (zap (dvs:=[]) M_Members_check_name (by simp) T.cl_Members (hr.mono (by decide)) passF (pv 0) (zaa (pv 1) zag))) (zad (zbg (zba D_check_share (hr.mono (by decide)) rfl passF (zaa (pv 2) zag))) (zaf (zfx (hu_of hr) (zbe (pv 0) rfl) (pv 1) (pv 2) rfl)))),?_⟩
  show tSeq _ _ _ [some (.ref p),some (.str x),some (.int s)] H
  obtain ⟨dx,fs,hp,hf,hno,hlen⟩:=M.ex
  refine zae fun R hR=>?_
  walk_at "rd"
  refine zav hp (hno _ (by decide +kernel)) ⟨p,psh,nm,x,rfl,M,fun hx=>hR _ _ ?_,kc⟩
  refine zae fun R hR=>?_
  walk_at "rd"
  refine ⟨s,rfl,fun c=>hR _ _ ?_,fun c=>ks hx c⟩
  walk_at "rd"
  refine zar hp T.cl_Members T.na_Members_shares hf ?_
  walk_at "rd"
  refine ⟨_,DPut.k (k:=Sum.inr x) M.hs (line_lt (by rw [zgx]; omega)),?_⟩
  rw [zpg hx]
  exact k hx c
def spMsh (cC C:Addr):Sp:=fun vs H Q E=>∃ p psh nm x,vs = [.ref p,.str x]/\Mb C H p psh nm/\(shOf nm x=none->Rs cC H E)/\∀ s,shOf nm x=some s->Q (.int s) H
theorem zff (T:Txt K mg c_WheelError c_NoName c_Taken c_NoClass c_NoPlace c_NoShare c_NoCurb c_NoLength c_TooEarly c_Bucket c_Members c_Chooser c_Starts c_Rounds c_Node c_Tree):MethD P w K mg base (CXX P w) 2 c_Members "share_of" ["self", "name"] [[]] (spMsh c_NoClass c_Members):=by
 have M_Members_check_name:=zex (P:=P) (w:=w) (base:=base) T
 refine T.me_Members_share_of.okX (k:=1) zgn (fun vs H Q E h=>?_) (fun f cdv A outer s H vs Q E hr h=>?_)
 ·obtain ⟨p,psh,nm,x,rfl,_⟩:=h
  rfl
 ·obtain ⟨p,psh,nm,x,rfl,M,kx,k⟩:=h
  refine ⟨_,(zad (zbg (zap (dvs:=[]) M_Members_check_name (by simp) T.cl_Members (hr.mono (by decide)) passF (pv 0) (zaa (pv 1) zag))) (zaf (zax (zdk (hu_of hr) (zbe (pv 0) rfl) (pv 1) (fun _ _=>rfl))))),?_⟩
  show tSeq _ _ _ [some (.ref p),some (.str x)] H
  obtain ⟨dx,fs,hp,hf,hno,hlen⟩:=M.ex
  refine zae fun R hR=>?_
  walk_at "rd"
  refine zav hp (hno _ (by decide +kernel)) ⟨p,psh,nm,x,rfl,M,fun hx=>hR _ _ ?_,kx⟩
  cases e:shOf nm x with
  | none=>exact absurd e hx
  | some s =>
   walk_at "rd"
   refine zar hp T.cl_Members T.na_Members_shares hf ?_
   walk_at "rd"
   have hg:=DGet.k (k:=Sum.inr x) M.hs
   rw [zhq,e] at hg
   exact ⟨.int s,hg,k s e⟩
def allS (nm:Nm):Int:=(nm.map (·.2)).sum
def zyc (C:Addr):Sp:=fun vs H Q _=>∃ p psh nm,vs = [.ref p]/\Mb C H p psh nm/\Q (.int (allS nm)) H
theorem zgh (T:Txt K mg c_WheelError c_NoName c_Taken c_NoClass c_NoPlace c_NoShare c_NoCurb c_NoLength c_TooEarly c_Bucket c_Members c_Chooser c_Starts c_Rounds c_Node c_Tree):MethD P w K mg base (CXX P w) 1 c_Members "all_shares" ["self"] [[]] (zyc c_Members):=by
 refine T.me_Members_all_shares.okN (k:=0) zfz (fun vs H Q E h=>?_) (fun f cdv A outer s H vs Q E hr h=>?_)
 ·obtain ⟨p,psh,nm,rfl,_⟩:=h
  rfl
 ·obtain ⟨p,psh,nm,rfl,M,k⟩:=h
  refine ⟨_,(zaf (zax (zvy rfl (zbe (pv 0) rfl) rfl T.no_sum))),?_⟩
  show tRet _ _ [some (.ref p)] H
  obtain ⟨dx,fs,hp,hf,hno,hlen⟩:=M.ex
  walk_at "rd"
  unfold tSumV
  walk_at "rd"
  refine zar hp T.cl_Members T.na_Members_shares hf ?_
  exact ⟨psh,rfl,kvsOf nm,M.hs,(nm.map fun y:Str×Int=>y.2:List Int),by unfold L2.kvsOf; rw [List.map_map,List.map_map]; rfl,k⟩
def zwh (cC C:Addr):Sp:=fun vs H Q E=>∃ p psh nm x,vs = [.ref p,.str x]/\Mb C H p psh nm/\(shOf nm x=none->Rs cC H E)/\∀ s,shOf nm x=some s->0<allS nm/\allS nm<1000000000000/\∀ q,H q=none->Q (.ref q) (upd H q (.tup (fq ((s:Rat) / (allS nm:Rat)))))
theorem zgl (T:Txt K mg c_WheelError c_NoName c_Taken c_NoClass c_NoPlace c_NoShare c_NoCurb c_NoLength c_TooEarly c_Bucket c_Members c_Chooser c_Starts c_Rounds c_Node c_Tree):MethD P w K mg base (CXX P w) 3 c_Members "part" ["self", "name"] [[]] (zwh c_NoClass c_Members):=by
 have M_Members_share_of:=zff (P:=P) (w:=w) (base:=base) T
 have M_Members_all_shares:=zgh (P:=P) (w:=w) (base:=base) T
 have D_ratio:=zld (P:=P) (w:=w) (base:=base) T
 refine T.me_Members_part.okX (k:=2) zja (fun vs H Q E h=>?_) (fun f cdv A outer s H vs Q E hr h=>?_)
 ·obtain ⟨p,psh,nm,x,rfl,_⟩:=h
  rfl
 ·obtain ⟨p,psh,nm,x,rfl,M,kx,k⟩:=h
  refine ⟨_,(zaf (zax (zba D_ratio (hr.mono (by decide)) rfl passF (zaa (zap (dvs:=[]) M_Members_share_of (by simp) T.cl_Members (hr.mono (by decide)) passF (pv 0) (zaa (pv 1) zag)) (zaa (zfw (dvs:=[]) M_Members_all_shares (by simp) T.cl_Members (hr.mono (by decide)) passF (pv 0)) zag))))),?_⟩
  show tRet _ _ [some (.ref p),some (.str x)] H
  obtain ⟨dx,fs,hp,hf,hno,hlen⟩:=M.ex
  walk_at "rd"
  refine zav hp (hno _ (by decide +kernel)) ⟨p,psh,nm,x,rfl,M,kx,fun s hs=>?_⟩
  obtain ⟨a0,a1,k⟩:=k s hs
  refine zav hp (hno _ (by decide +kernel)) ⟨p,psh,nm,rfl,M,?_⟩
  exact ⟨s,allS nm,70,rfl,by decide,Sw.Sz.r18 (by omega) (by omega),fun _ q hq=>k q hq,fun z=>by omega⟩
def spUp (C Cm:Addr):Sp:=fun vs H Q _=>∃ x dx most,vs = [.ref x,.int most]/\H x=some (.ins C dx [])/\∀ pm psh H',But x H H'->H pm=none->H psh=none->pm≠x->H' x=some (.ins C dx (putF "chosen" .non (putF "members" (.ref pm) (putF "most" (.int most) []))))->Mb Cm H' pm psh []->Q .non H'
theorem zgs (T:Txt K mg c_WheelError c_NoName c_Taken c_NoClass c_NoPlace c_NoShare c_NoCurb c_NoLength c_TooEarly c_Bucket c_Members c_Chooser c_Starts c_Rounds c_Node c_Tree):UpD P w K mg base (CXX P w) 3 c_Chooser "__init__" ["self", "most"] (spUp c_Starts c_Members):=by
 have K_Members:=znd (P:=P) (w:=w) (base:=base) T
 refine T.up_Starts_up_Chooser.okN (k:=2) zge (fun vs H Q E h=>?_) (fun f cdv A outer s H vs Q E hr h=>?_)
 ·obtain ⟨x,dx,most,rfl,_⟩:=h
  rfl
 ·obtain ⟨x,dx,most,rfl,hx,k⟩:=h
  refine ⟨_,(zad (zcf (pv 0) (pv 1) rfl) (zad (zcf (pv 0) (zmm (dvs:=[]) K_Members (by simp) (hr.mono (by decide)) passN rfl T.mg_Members) rfl) (zaf (zcf (pv 0) zew rfl)))),?_⟩
  show tSeq _ _ _ [some (.ref x),some (.int most)] H
  have l1:=zan (fs:=[]) (f := "most") (v:=.int most)
  simp only [List.length_nil] at l1
  refine zae fun R hR=>?_
  walk_at "rd"
  refine zcg hx T.cl_Starts T.na_Starts_most (by simp) (hR _ _ ?_)
  refine zae fun R hR=>?_
  walk_at "rd"
  intro pm dm hpm hdm _
  have nx:pm≠x:=fun z=>by rw [z,zac] at hpm; cases hpm
  have npm:H pm=none:=by rw [zai nx] at hpm; exact hpm
  refine ⟨pm,dm,rfl,zac,fun psh H1 bt hpsh M=>⟨rfl,?_⟩⟩
  have s1:=bt.same (zdj hpm hdm) hpm
  have hx1:=s1 _ _ zac
  have l2:=zan (fs:=putF "most" (.int most) []) (f := "members") (v:=.ref pm)
  have fpsh:upd H x (.ins c_Starts dx (putF "most" (.int most) [])) psh=none:=(zdj hpm hdm).free hpsh
  have npx:psh≠x:=fun z=>by rw [z,zac] at fpsh; cases fpsh
  have npsh:H psh=none:=by rw [zai npx] at fpsh; exact fpsh
  refine zcg hx1 T.cl_Starts T.na_Starts_members (by omega) (hR _ _ ?_)
  walk_at "rd"
  refine zcg zac T.cl_Starts T.na_Starts_chosen (by omega) ?_
  rw [zeh]
  refine k pm psh _ (fun b o n e=>?_) npm npsh nx zac ?_
  ·rw [zai n]
   exact s1 _ _ (by rw [zai n]; exact e)
  ·obtain ⟨d2,f2,g1,g2⟩:=M.ex
   exact ⟨⟨d2,f2,by rw [zai nx]; exact g1,g2⟩,by rw [zai npx]; exact M.hs⟩
def spSI (C Cm:Addr):Sp:=fun vs H Q _=>∃ x dx most,vs = [.ref x,.int most]/\H x=some (.ins C dx [])/\∀ (a:At5) H',a.p=x->But x H H'->H a.pm=none->H a.ps=none->H a.pt=none->H a.pg=none->Sx C Cm H' a most [] (fun _=>none) (fun _=>none) 0 .non 0->Q .non H'
theorem ztu (T:Txt K mg c_WheelError c_NoName c_Taken c_NoClass c_NoPlace c_NoShare c_NoCurb c_NoLength c_TooEarly c_Bucket c_Members c_Chooser c_Starts c_Rounds c_Node c_Tree):MkD P w K mg base (CXX P w) 4 c_Starts ["self", "most"] [[]] (spSI c_Starts c_Members):=by
 have U_Starts_up_Chooser:=zgs (P:=P) (w:=w) (base:=base) T
 have D_ratio:=zld (P:=P) (w:=w) (base:=base) T
 refine T.in_Starts.okN (k:=3) zjm (fun vs H Q E h=>?_) (fun f cdv A outer s H vs Q E hr h=>?_)
 ·obtain ⟨x,dx,most,rfl,_⟩:=h
  rfl
 ·obtain ⟨x,dx,most,rfl,hx,k⟩:=h
  refine ⟨_,(zad (zbg (zsd U_Starts_up_Chooser (hr.mono (by decide)) passN rfl T.mg_Chooser (zaa (pv 0) (zaa (pv 1) zag)))) (zad (zcf (pv 0) (zba D_ratio (hr.mono (by decide)) rfl passN (zaa zah (zaa zah zag))) rfl) (zad (zcf (pv 0) zgb rfl) (zaf (zcf (pv 0) zgb rfl))))),?_⟩
  show tSeq _ _ _ [some (.ref x),some (.int most)] H
  refine zae fun R hR=>?_
  walk_at "rdc"
  refine ⟨x,dx,most,rfl,hx,fun pm psh H1 bt npm npsh nx hx1 M=>hR _ _ ?_⟩
  have l1:=zan (fs:=[]) (f := "most") (v:=.int most)
  have l2:=zan (fs:=putF "most" (.int most) []) (f := "members") (v:=.ref pm)
  have l3:=zan (fs:=putF "members" (.ref pm) (putF "most" (.int most) [])) (f := "chosen") (v:=.non)
  simp only [List.length_nil] at l1
  refine zae fun R hR=>?_
  walk_at "rd"
  refine ⟨0,1,1,rfl,by decide,Sw.Sz.one _,fun _ pr hpr=>?_,fun z=>absurd z (by decide)⟩
  have e0:((0:Int):Rat) / ((1:Int):Rat) = 0:=by
   have z0:((0:Int):Rat) = 0:=rfl
   rw [z0]; grind
  rw [e0]
  have s1:=zak (o:=.tup (fq 0)) hpr
  have hprt:upd H1 pr (.tup (fq 0)) pr=some (.tup (fq 0)):=zac
  have hx1:=s1 _ _ hx1
  have M:=M.same s1
  have bt:=bt.trans s1.but
  generalize upd H1 pr (.tup (fq 0))=H2 at s1 hprt hx1 M bt ⊢
  clear s1 hpr
  walk_at "rd"
  refine zcg hx1 T.cl_Starts T.na_Starts_reached (by omega) (hR _ _ ?_)
  generalize hfs:putF "reached" (.ref pr) (putF "chosen" .non (putF "members" (.ref pm) (putF "most" (.int most) [])))=fs1
  have l4:fs1.length<=4:=by
   have:=zan (fs:=putF "chosen" .non (putF "members" (.ref pm) (putF "most" (.int most) []))) (f := "reached") (v:=.ref pr)
   rw [hfs] at this
   omega
  have hx2:upd H2 x (.ins c_Starts dx fs1) x=some (.ins c_Starts dx fs1):=zac
  have bt:But x H (upd H2 x (.ins c_Starts dx fs1)):=bt.trans zhp
  have npx:psh≠x:=fun z=>by rw [z,hx] at npsh; cases npsh
  have nrx:pr≠x:=ne_of hprt hx1 (by intro z; cases z)
  have hprt:upd H2 x (.ins c_Starts dx fs1) pr=some (.tup (fq 0)):=by rw [zai nrx]; exact hprt
  have M:Mb c_Members (upd H2 x (.ins c_Starts dx fs1)) pm psh []:=by
   obtain ⟨d2,f2,g1,g2⟩:=M.ex
   exact ⟨⟨d2,f2,by rw [zai nx]; exact g1,g2⟩,by rw [zai npx]; exact M.hs⟩
  generalize upd H2 x (.ins c_Starts dx fs1)=H3 at hx2 bt hprt M ⊢
  refine zae fun R hR=>?_
  walk_at "rd"
  intro pt hpt
  have ntx:pt≠x:=fun z=>by rw [z,hx2] at hpt; cases hpt
  have s3:=zak (o:=.dK []) hpt
  have hptd:upd H3 pt (.dK []) pt=some (.dK []):=zac
  have nts:=zao M.hs hpt
  refine zcg (s3 _ _ hx2) T.cl_Starts T.na_Starts_tags (by omega) (hR _ _ ?_)
  have free:∀ {H':Hp} {b:Addr},But x H H'->b≠x->H' b=none->H b=none:=fun {H' b} bt n e=>by
   cases q:H b with
   | none=>rfl
   | some o =>
    have:=bt _ _ n q
    rw [e] at this
    cases this
  have npt:=free bt ntx hpt
  have l5:=zan (fs:=fs1) (f := "tags") (v:=.ref pt)
  have keepx:∀ {H':Hp} {fs:List (Str×V)} {b:Addr} {o:HO},b≠x->H' b=some o->upd H' x (.ins c_Starts dx fs) b=some o:=fun n e=>by rw [zai n]; exact e
  have bt:But x H (upd (upd H3 pt (.dK [])) x (.ins c_Starts dx (putF "tags" (.ref pt) fs1))):=(bt.trans s3.but).trans zhp
  have hprt:=keepx (fs:=putF "tags" (.ref pt) fs1) nrx (s3 _ _ hprt)
  have hptd:=keepx (fs:=putF "tags" (.ref pt) fs1) ntx hptd
  have M:Mb c_Members (upd (upd H3 pt (.dK [])) x (.ins c_Starts dx (putF "tags" (.ref pt) fs1))) pm psh []:=by
   obtain ⟨d2,f2,g1,g2⟩:=(M.same s3).ex
   exact ⟨⟨d2,f2,keepx nx g1,g2⟩,keepx npx (s3 _ _ M.hs)⟩
  have hx4:upd (upd H3 pt (.dK [])) x (.ins c_Starts dx (putF "tags" (.ref pt) fs1)) x=some (.ins c_Starts dx (putF "tags" (.ref pt) fs1)):=zac
  generalize upd (upd H3 pt (.dK [])) x (.ins c_Starts dx (putF "tags" (.ref pt) fs1))=H4 at bt hprt hptd M hx4 ⊢
  clear s3 hpt hx2
  walk_at "rd"
  intro pg hpg
  have ngx:pg≠x:=fun z=>by rw [z,hx4] at hpg; cases hpg
  have s5:=zak (o:=.dK []) hpg
  have ngt:=zao hptd hpg
  have ngs:=zao M.hs hpg
  refine zcg (s5 _ _ hx4) T.cl_Starts T.na_Starts_greatest_steps (by omega) ?_
  have npg:=free bt ngx hpg
  refine k ⟨x,pm,psh,pt,pg⟩ _ rfl ((bt.trans s5.but).trans zhp) npm npsh npt npg ⟨⟨dx,_,pr,zac,?_,keepx nrx (s5 _ _ hprt)⟩,?_,⟨[],keepx ntx (s5 _ _ hptd),fun y=>.inl ⟨rfl,rfl⟩,Nat.le_refl _⟩,⟨[],keepx ngx zac,fun y=>.inl ⟨rfl,rfl⟩,Nat.le_refl _⟩,Nat.le_refl _,ngt,nts.symm,ngs.symm,nx.symm⟩
  ·rw [<- hfs]
   exact FS.mk0 _ _ _ _ _ _
  ·obtain ⟨d2,f2,g1,g2⟩:=(M.same s5).ex
   exact ⟨⟨d2,f2,keepx nx g1,g2⟩,keepx npx (s5 _ _ M.hs)⟩
def spFit (C:Addr):Sp:=fun vs H Q _=>∃ p x,vs = [.ref p,.str x]/\Q .non H
theorem zje (T:Txt K mg c_WheelError c_NoName c_Taken c_NoClass c_NoPlace c_NoShare c_NoCurb c_NoLength c_TooEarly c_Bucket c_Members c_Chooser c_Starts c_Rounds c_Node c_Tree):MethD P w K mg base (CXX P w) 1 c_Starts "fit_in" ["self", "name"] [[]] (spFit c_Starts):=by
 refine T.me_Starts_fit_in.okN (k:=0) zib (fun vs H Q E h=>?_) (fun f cdv A outer s H vs Q E hr h=>?_)
 ·obtain ⟨p,x,rfl,_⟩:=h
  rfl
 ·obtain ⟨p,x,rfl,k⟩:=h
  refine ⟨_,(zaf zvb),?_⟩
  show (_:TS) _ [some (.ref p),some (.str x)] H
  walk_at "rd"
  exact k
def zwi (C Cm:Addr):Sp:=fun vs H Q _=>∃ a most nm tg gs ck ch N x,vs = [.ref a.p,.str x]/\Sx C Cm H a most nm tg gs ck ch N/\N<900/\∀ H',Own a H H'->Sx C Cm H' a most nm (setS tg x 0) (setS gs x 0) ck ch (N+2)->Q .non H'
theorem zjv (T:Txt K mg c_WheelError c_NoName c_Taken c_NoClass c_NoPlace c_NoShare c_NoCurb c_NoLength c_TooEarly c_Bucket c_Members c_Chooser c_Starts c_Rounds c_Node c_Tree):MethD P w K mg base (CXX P w) 3 c_Starts "enter" ["self", "name"] [[]] (zwi c_Starts c_Members):=by
 have D_ratio:=zld (P:=P) (w:=w) (base:=base) T
 refine T.me_Starts_enter.okN (k:=2) zjb (fun vs H Q E h=>?_) (fun f cdv A outer s H vs Q E hr h=>?_)
 ·obtain ⟨a,most,nm,tg,gs,ck,ch,N,x,rfl,_⟩:=h
  rfl
 ·obtain ⟨a,most,nm,tg,gs,ck,ch,N,x,rfl,S,hN,k⟩:=h
  refine ⟨_,(zad (zfx (hu_of hr) (zbe (pv 0) rfl) (pv 1) (zba D_ratio (hr.mono (by decide)) rfl passN (zaa zah (zaa zah zag))) rfl) (zaf (zfx (hu_of hr) (zbe (pv 0) rfl) (pv 1) (zba D_ratio (hr.mono (by decide)) rfl passN (zaa zah (zaa zah zag))) rfl))),?_⟩
  show tSeq _ _ _ [some (.ref a.p),some (.str x)] H
  refine zae fun R hR=>?_
  walk_at "rd"
  refine ⟨0,1,1,rfl,by decide,Sw.Sz.one _,fun _ q hq=>?_,fun z=>absurd z (by decide)⟩
  rw [rat01]
  have sn:=zak (o:=.tup (fq 0)) hq
  have hqt:upd H q (.tup (fq 0)) q=some (.tup (fq 0)):=zac
  have S:=S.same sn
  generalize upd H q (.tup (fq 0))=H1 at sn hqt S ⊢
  obtain ⟨dx,fs,pr,hp,ft,hr'⟩:=S.ex
  obtain ⟨kvs,hpt,hv,hkl⟩:=S.dt.ex
  walk_at "rd"
  refine zar hp T.cl_Starts T.na_Starts_tags ft.ta ?_
  walk_at "rd"
  refine ⟨_,DPut.k (k:=Sum.inr x) hpt (line_lt (by omega)),hR _ _ ?_⟩
  have lput:=zfc kvs (Sum.inr x:Key) (.ref q)
  have S:=S.set_t (Nat.le_succ N) (RatD.put (x:=x) (r:=0) hpt hv (by omega) hqt)
  have ow:Own a H _:=sn.own.trans (own_t (a:=a) (H:=H1) (o:=.dK (putK kvs (Sum.inr x) (.ref q))))
  generalize upd H1 a.pt (.dK (putK kvs (Sum.inr x) (.ref q)))=H2 at S ow ⊢
  clear sn hqt hp ft hr' hpt hv hkl lput hq
  walk_at "rd"
  refine ⟨0,1,1,rfl,by decide,Sw.Sz.one _,fun _ q hq=>?_,fun z=>absurd z (by decide)⟩
  rw [rat01]
  have sn:=zak (o:=.tup (fq 0)) hq
  have hqt:upd H2 q (.tup (fq 0)) q=some (.tup (fq 0)):=zac
  have S:=S.same sn
  generalize upd H2 q (.tup (fq 0))=H3 at sn hqt S ⊢
  obtain ⟨dx,fs,pr,hp,ft,hr'⟩:=S.ex
  obtain ⟨kvs,hpg,hv,hkl⟩:=S.dg.ex
  walk_at "rd"
  refine zar hp T.cl_Starts T.na_Starts_greatest_steps ft.gr ?_
  walk_at "rd"
  refine ⟨_,DPut.k (k:=Sum.inr x) hpg (line_lt (by omega)),?_⟩
  have lput:=zfc kvs (Sum.inr x:Key) (.ref q)
  exact k _ ((ow.trans sn.own).trans own_g) (S.set_g (Nat.le_succ (N+1)) (RatD.put (x:=x) (r:=0) hpg hv (by omega) hqt))
def spPut (cT cS C Cm:Addr):Sp:=fun vs H Q E=>∃ a most nm tg gs ck ch N x s,vs = [.ref a.p,.str x,.int s]/\Sx C Cm H a most nm tg gs ck ch N/\N<890/\(shOf nm x≠none->Rs cT H E)/\(shOf nm x=none->¬ (1<=s/\s<=1000000)->Rs cS H E)/\(shOf nm x=none->1<=s/\s<=1000000->∀ H',Own a H H'->Sx C Cm H' a most (nm++[(x,s)]) (setS tg x 0) (setS gs x 0) ck ch (N+3)->Q .non H')
theorem zne (T:Txt K mg c_WheelError c_NoName c_Taken c_NoClass c_NoPlace c_NoShare c_NoCurb c_NoLength c_TooEarly c_Bucket c_Members c_Chooser c_Starts c_Rounds c_Node c_Tree):MethD P w K mg base (CXX P w) 4 c_Starts "put" ["self", "name", "share"] [[]] (spPut c_Taken c_NoShare c_Starts c_Members):=by
 have M_Members_put:=zhd (P:=P) (w:=w) (base:=base) T
 have M_Starts_enter:=zjv (P:=P) (w:=w) (base:=base) T
 refine T.me_Starts_put.okX (k:=3) zlb (fun vs H Q E h=>?_) (fun f cdv A outer s H vs Q E hr h=>?_)
 ·obtain ⟨a,most,nm,tg,gs,ck,ch,N,x,s,rfl,_⟩:=h
  rfl
 ·obtain ⟨a,most,nm,tg,gs,ck,ch,N,x,s,rfl,S,hN,kt,ks,k⟩:=h
  refine ⟨_,(zad (zbg (zap (dvs:=[]) M_Members_put (by simp) T.cl_Members (hr.mono (by decide)) passF (zbe (pv 0) rfl) (zaa (pv 1) (zaa (pv 2) zag)))) (zaf (zbg (zap (dvs:=[]) M_Starts_enter (by simp) T.cl_Starts (hr.mono (by decide)) passF (pv 0) (zaa (pv 1) zag))))),?_⟩
  show tSeq _ _ _ [some (.ref a.p),some (.str x),some (.int s)] H
  obtain ⟨dx,fs,pr,hp,ft,hr'⟩:=S.ex
  obtain ⟨dm,fm,hpm,hfm,hno,hlen⟩:=S.mb.ex
  have nl:=S.nl
  refine zae fun R hR=>?_
  walk_at "rd"
  refine zar hp T.cl_Starts T.na_Starts_members ft.me ?_
  refine zav hpm (hno _ (by decide +kernel)) ⟨a.pm,a.ps,nm,x,s,rfl,S.mb,by omega,kt,ks,fun hx hs=>hR _ _ ?_⟩
  have S:=S.set_s (nm':=nm++[(x,s)]) (Nat.le_succ N) (by simp; omega)
  have ow:Own a H (upd H a.ps (.dK (kvsOf (nm++[(x,s)])))):=own_s
  generalize upd H a.ps (.dK (kvsOf (nm++[(x,s)])))=H1 at S ow ⊢
  obtain ⟨dx,fs,pr,hp,ft,hr'⟩:=S.ex
  walk_at "rd"
  exact zav hp (ft.no _ (by decide +kernel) (by decide +kernel) (by decide +kernel) (by decide +kernel) (by decide +kernel) (by decide +kernel)) ⟨a,most,_,tg,gs,ck,ch,N+1,x,rfl,S,by omega,fun H' o' S'=>k hx hs H' (ow.trans o') S'⟩
def zyd (cC cS C Cm:Addr):Sp:=fun vs H Q E=>∃ a most nm tg gs ck ch N x s,vs = [.ref a.p,.str x,.int s]/\Sx C Cm H a most nm tg gs ck ch N/\N<890/\(shOf nm x=none->Rs cC H E)/\(shOf nm x≠none->¬ (1<=s/\s<=1000000)->Rs cS H E)/\(shOf nm x≠none->1<=s/\s<=1000000->∀ H',Own a H H'->Sx C Cm H' a most (putN nm x s) tg gs ck ch N->Q .non H')
theorem zid (T:Txt K mg c_WheelError c_NoName c_Taken c_NoClass c_NoPlace c_NoShare c_NoCurb c_NoLength c_TooEarly c_Bucket c_Members c_Chooser c_Starts c_Rounds c_Node c_Tree):MethD P w K mg base (CXX P w) 3 c_Starts "reshare" ["self", "name", "share"] [[]] (zyd c_NoClass c_NoShare c_Starts c_Members):=by
 have M_Members_reshare:=zfl (P:=P) (w:=w) (base:=base) T
 have M_Starts_fit_in:=zje (P:=P) (w:=w) (base:=base) T
 refine T.me_Starts_reshare.okX (k:=2) zhv (fun vs H Q E h=>?_) (fun f cdv A outer s H vs Q E hr h=>?_)
 ·obtain ⟨a,most,nm,tg,gs,ck,ch,N,x,s,rfl,_⟩:=h
  rfl
 ·obtain ⟨a,most,nm,tg,gs,ck,ch,N,x,s,rfl,S,hN,kc,ks,k⟩:=h
  refine ⟨_,(zad (zbg (zap (dvs:=[]) M_Members_reshare (by simp) T.cl_Members (hr.mono (by decide)) passF (zbe (pv 0) rfl) (zaa (pv 1) (zaa (pv 2) zag)))) (zaf (zbg (zap (dvs:=[]) M_Starts_fit_in (by simp) T.cl_Starts (hr.mono (by decide)) passF (pv 0) (zaa (pv 1) zag))))),?_⟩
  show tSeq _ _ _ [some (.ref a.p),some (.str x),some (.int s)] H
  obtain ⟨dx,fs,pr,hp,ft,hr'⟩:=S.ex
  obtain ⟨dm,fm,hpm,hfm,hno,hlen⟩:=S.mb.ex
  have nl:=S.nl
  refine zae fun R hR=>?_
  walk_at "rd"
  refine zar hp T.cl_Starts T.na_Starts_members ft.me ?_
  refine zav hpm (hno _ (by decide +kernel)) ⟨a.pm,a.ps,nm,x,s,rfl,S.mb,by omega,kc,ks,fun hx hs=>hR _ _ ?_⟩
  have S:=S.set_s (nm':=putN nm x s) (Nat.le_refl N) (by unfold putN; rw [List.length_map]; exact nl)
  have ow:Own a H (upd H a.ps (.dK (kvsOf (putN nm x s)))):=own_s
  generalize upd H a.ps (.dK (kvsOf (putN nm x s)))=H1 at S ow ⊢
  obtain ⟨dx,fs,pr,hp,ft,hr'⟩:=S.ex
  walk_at "rd"
  exact zav hp (ft.no _ (by decide +kernel) (by decide +kernel) (by decide +kernel) (by decide +kernel) (by decide +kernel) (by decide +kernel)) ⟨a.p,x,rfl,k hx hs _ ow S⟩
def zye (cC C Cm:Addr):Sp:=fun vs H Q E=>∃ a most nm tg gs ck ch N x,vs = [.ref a.p,.str x]/\Sx C Cm H a most nm tg gs ck ch N/\(shOf nm x=none->Rs cC H E)/\∀ s,shOf nm x=some s->0<allS nm/\allS nm<1000000000000/\∀ q,H q=none->Q (.ref q) (upd H q (.tup (fq ((s:Rat) / (allS nm:Rat)))))
theorem zle (T:Txt K mg c_WheelError c_NoName c_Taken c_NoClass c_NoPlace c_NoShare c_NoCurb c_NoLength c_TooEarly c_Bucket c_Members c_Chooser c_Starts c_Rounds c_Node c_Tree):MethD P w K mg base (CXX P w) 4 c_Starts "part" ["self", "name"] [[]] (zye c_NoClass c_Starts c_Members):=by
 have M_Members_part:=zgl (P:=P) (w:=w) (base:=base) T
 refine T.me_Starts_part.okX (k:=3) zjn (fun vs H Q E h=>?_) (fun f cdv A outer s H vs Q E hr h=>?_)
 ·obtain ⟨a,most,nm,tg,gs,ck,ch,N,x,rfl,_⟩:=h
  rfl
 ·obtain ⟨a,most,nm,tg,gs,ck,ch,N,x,rfl,S,kx,k⟩:=h
  refine ⟨_,(zaf (zax (zap (dvs:=[]) M_Members_part (by simp) T.cl_Members (hr.mono (by decide)) passF (zbe (pv 0) rfl) (zaa (pv 1) zag)))),?_⟩
  show tRet _ _ [some (.ref a.p),some (.str x)] H
  obtain ⟨dx,fs,pr,hp,ft,hr'⟩:=S.ex
  obtain ⟨dm,fm,hpm,hfm,hno,hlen⟩:=S.mb.ex
  walk_at "rd"
  refine zar hp T.cl_Starts T.na_Starts_members ft.me ?_
  exact zav hpm (hno _ (by decide +kernel)) ⟨a.pm,a.ps,nm,x,rfl,S.mb,kx,k⟩
def spUpR (C Cm:Addr):Sp:=fun vs H Q _=>∃ x dx most,vs = [.ref x,.int most]/\H x=some (.ins C dx [])/\∀ pm psh H',But x H H'->H pm=none->H psh=none->pm≠x->H' x=some (.ins C dx (putF "chosen" .non (putF "members" (.ref pm) (putF "most" (.int most) []))))->Mb Cm H' pm psh []->Q .non H'
theorem zgt (T:Txt K mg c_WheelError c_NoName c_Taken c_NoClass c_NoPlace c_NoShare c_NoCurb c_NoLength c_TooEarly c_Bucket c_Members c_Chooser c_Starts c_Rounds c_Node c_Tree):UpD P w K mg base (CXX P w) 3 c_Chooser "__init__" ["self", "most"] (spUpR c_Rounds c_Members):=by
 have K_Members:=znd (P:=P) (w:=w) (base:=base) T
 refine T.up_Rounds_up_Chooser.okN (k:=2) zgf (fun vs H Q E h=>?_) (fun f cdv A outer s H vs Q E hr h=>?_)
 ·obtain ⟨x,dx,most,rfl,_⟩:=h
  rfl
 ·obtain ⟨x,dx,most,rfl,hx,k⟩:=h
  refine ⟨_,(zad (zcf (pv 0) (pv 1) rfl) (zad (zcf (pv 0) (zmm (dvs:=[]) K_Members (by simp) (hr.mono (by decide)) passN rfl T.mg_Members) rfl) (zaf (zcf (pv 0) zew rfl)))),?_⟩
  show tSeq _ _ _ [some (.ref x),some (.int most)] H
  have l1:=zan (fs:=[]) (f := "most") (v:=.int most)
  simp only [List.length_nil] at l1
  refine zae fun R hR=>?_
  walk_at "rd"
  refine zcg hx T.cl_Rounds T.na_Rounds_most (by simp) (hR _ _ ?_)
  refine zae fun R hR=>?_
  walk_at "rd"
  intro pm dm hpm hdm _
  have nx:pm≠x:=fun z=>by rw [z,zac] at hpm; cases hpm
  have npm:H pm=none:=by rw [zai nx] at hpm; exact hpm
  refine ⟨pm,dm,rfl,zac,fun psh H1 bt hpsh M=>⟨rfl,?_⟩⟩
  have s1:=bt.same (zdj hpm hdm) hpm
  have hx1:=s1 _ _ zac
  have l2:=zan (fs:=putF "most" (.int most) []) (f := "members") (v:=.ref pm)
  have fpsh:upd H x (.ins c_Rounds dx (putF "most" (.int most) [])) psh=none:=(zdj hpm hdm).free hpsh
  have npx:psh≠x:=fun z=>by rw [z,zac] at fpsh; cases fpsh
  have npsh:H psh=none:=by rw [zai npx] at fpsh; exact fpsh
  refine zcg hx1 T.cl_Rounds T.na_Rounds_members (by omega) (hR _ _ ?_)
  walk_at "rd"
  refine zcg zac T.cl_Rounds T.na_Rounds_chosen (by omega) ?_
  rw [zeh]
  refine k pm psh _ (fun b o n e=>?_) npm npsh nx zac ?_
  ·rw [zai n]
   exact s1 _ _ (by rw [zai n]; exact e)
  ·obtain ⟨d2,f2,g1,g2⟩:=M.ex
   exact ⟨⟨d2,f2,by rw [zai nx]; exact g1,g2⟩,by rw [zai npx]; exact M.hs⟩
def zwj (C Cm:Addr):Sp:=fun vs H Q _=>∃ x dx most,vs = [.ref x,.int most]/\H x=some (.ins C dx [])/\∀ (a:At5) H',a.p=x->But x H H'->H a.pm=none->H a.ps=none->H a.pt=none->H a.pg=none->Rx C Cm H' a most [] [] [] none .non->Q .non H'
theorem ztv (T:Txt K mg c_WheelError c_NoName c_Taken c_NoClass c_NoPlace c_NoShare c_NoCurb c_NoLength c_TooEarly c_Bucket c_Members c_Chooser c_Starts c_Rounds c_Node c_Tree):MkD P w K mg base (CXX P w) 4 c_Rounds ["self", "most"] [[]] (zwj c_Rounds c_Members):=by
 have U_Rounds_up_Chooser:=zgt (P:=P) (w:=w) (base:=base) T
 refine T.in_Rounds.okN (k:=3) zjp (fun vs H Q E h=>?_) (fun f cdv A outer s H vs Q E hr h=>?_)
 ·obtain ⟨x,dx,most,rfl,_⟩:=h
  rfl
 ·obtain ⟨x,dx,most,rfl,hx,k⟩:=h
  refine ⟨_,(zad (zbg (zsd U_Rounds_up_Chooser (hr.mono (by decide)) passN rfl T.mg_Chooser (zaa (pv 0) (zaa (pv 1) zag)))) (zad (zcf (pv 0) (zdy zag) rfl) (zad (zcf (pv 0) zgb rfl) (zaf (zcf (pv 0) zew rfl))))),?_⟩
  show tSeq _ _ _ [some (.ref x),some (.int most)] H
  refine zae fun R hR=>?_
  walk_at "rdc"
  refine ⟨x,dx,most,rfl,hx,fun pm psh H1 bt npm npsh nx hx1 M=>hR _ _ ?_⟩
  have l1:=zan (fs:=[]) (f := "most") (v:=.int most)
  have l2:=zan (fs:=putF "most" (.int most) []) (f := "members") (v:=.ref pm)
  have l3:=zan (fs:=putF "members" (.ref pm) (putF "most" (.int most) [])) (f := "chosen") (v:=.non)
  simp only [List.length_nil] at l1
  have npx:psh≠x:=fun z=>by rw [z,hx] at npsh; cases npsh
  have free:∀ {H':Hp} {b:Addr},But x H H'->b≠x->H' b=none->H b=none:=fun {H' b} bt n e=>by
   cases q:H b with
   | none=>rfl
   | some o =>
    have:=bt _ _ n q
    rw [e] at this
    cases this
  have keepx:∀ {H':Hp} {fs:List (Str×V)} {b:Addr} {o:HO},b≠x->H' b=some o->upd H' x (.ins c_Rounds dx fs) b=some o:=fun n e=>by rw [zai n]; exact e
  generalize hfs0:putF "chosen" .non (putF "members" (.ref pm) (putF "most" (.int most) []))=fs0 at hx1 l3
  refine zae fun R hR=>?_
  walk_at "rd"
  intro pt hpt
  have ntx:pt≠x:=fun z=>by rw [z,hx1] at hpt; cases hpt
  have s3:=zak (o:=.lst []) hpt
  have hptd:upd H1 pt (.lst []) pt=some (.lst []):=zac
  refine zcg (s3 _ _ hx1) T.cl_Rounds T.na_Rounds_queue (by omega) (hR _ _ ?_)
  have npt:=free bt ntx hpt
  have l4:=zan (fs:=fs0) (f := "queue") (v:=.ref pt)
  have bt:But x H (upd (upd H1 pt (.lst [])) x (.ins c_Rounds dx (putF "queue" (.ref pt) fs0))):=(bt.trans s3.but).trans zhp
  have hptd:=keepx (fs:=putF "queue" (.ref pt) fs0) ntx hptd
  have M:Mb c_Members (upd (upd H1 pt (.lst [])) x (.ins c_Rounds dx (putF "queue" (.ref pt) fs0))) pm psh []:=by
   obtain ⟨d2,f2,g1,g2⟩:=(M.same s3).ex
   exact ⟨⟨d2,f2,keepx nx g1,g2⟩,keepx npx (s3 _ _ M.hs)⟩
  have hx4:upd (upd H1 pt (.lst [])) x (.ins c_Rounds dx (putF "queue" (.ref pt) fs0)) x=some (.ins c_Rounds dx (putF "queue" (.ref pt) fs0)):=zac
  generalize upd (upd H1 pt (.lst [])) x (.ins c_Rounds dx (putF "queue" (.ref pt) fs0))=H4 at bt hptd M hx4 ⊢
  clear s3 hpt hx1
  refine zae fun R hR=>?_
  walk_at "rd"
  intro pg hpg
  have ngx:pg≠x:=fun z=>by rw [z,hx4] at hpg; cases hpg
  have s5:=zak (o:=.dK []) hpg
  have ngs:=zao M.hs hpg
  refine zcg (s5 _ _ hx4) T.cl_Rounds T.na_Rounds_rests (by omega) (hR _ _ ?_)
  have npg:=free bt ngx hpg
  have l5:=zan (fs:=putF "queue" (.ref pt) fs0) (f := "rests") (v:=.ref pg)
  walk_at "rd"
  refine zcg zac T.cl_Rounds T.na_Rounds_turn (by omega) ?_
  rw [zeh]
  refine k ⟨x,pm,psh,pt,pg⟩ _ rfl ((bt.trans s5.but).trans zhp) npm npsh npt npg ⟨⟨dx,_,zac,?_⟩,?_,keepx ntx (s5 _ _ hptd),keepx ngx zac,ngs.symm,nx.symm⟩
  ·rw [<- hfs0]
   exact FR.mk0 _ _ _ _ _
  ·obtain ⟨d2,f2,g1,g2⟩:=(M.same s5).ex
   exact ⟨⟨d2,f2,keepx nx g1,g2⟩,keepx npx (s5 _ _ M.hs)⟩
def ztw (C Cm:Addr):Sp:=fun vs H Q _=>∃ a most nm q rs tu ch x,vs = [.ref a.p,.str x]/\Rx C Cm H a most nm q rs tu ch/\q.length<900/\rs.length<900/\shOf rs x=none/\∀ H',Own a H H'->Rx C Cm H' a most nm (q++[x]) (rs++[(x,0)]) tu ch->Q .non H'
theorem zjw (T:Txt K mg c_WheelError c_NoName c_Taken c_NoClass c_NoPlace c_NoShare c_NoCurb c_NoLength c_TooEarly c_Bucket c_Members c_Chooser c_Starts c_Rounds c_Node c_Tree):MethD P w K mg base (CXX P w) 1 c_Rounds "enter" ["self", "name"] [[]] (ztw c_Rounds c_Members):=by
 refine T.me_Rounds_enter.okN (k:=0) zjc (fun vs H Q E h=>?_) (fun f cdv A outer s H vs Q E hr h=>?_)
 ·obtain ⟨a,most,nm,q,rs,tu,ch,x,rfl,_⟩:=h
  rfl
 ·obtain ⟨a,most,nm,q,rs,tu,ch,x,rfl,S,lq,lr,hx,k⟩:=h
  refine ⟨_,(zad (zbg (pe_bm PySem.F.plainAttrs_list PySem.F.slot_list_append PySem.F.type_list_append zfu (zbe (pv 0) rfl) (zaa (pv 1) zag))) (zaf (zfx (hu_of hr) (zbe (pv 0) rfl) (pv 1) zah rfl))),?_⟩
  show tSeq _ _ _ [some (.ref a.p),some (.str x)] H
  obtain ⟨dx,fs,hp,ft⟩:=S.ex
  refine zae fun R hR=>?_
  walk_at "rd"
  refine zar hp T.cl_Rounds T.na_Rounds_queue ft.qu ?_
  refine ⟨zpa S.hq,zrw S.hq (by rw [List.length_map]; omega) (hR _ _ ?_)⟩
  have e:q.map V.str++[V.str x] = (q++[x]).map V.str:=by rw [List.map_append]; rfl
  rw [e]
  have S:=S.set_q (q':=q++[x])
  have ow:Own a H (upd H a.pt (.lst ((q++[x]).map V.str))):=own_t
  generalize upd H a.pt (.lst ((q++[x]).map V.str))=H1 at S ow ⊢
  obtain ⟨dx,fs,hp,ft⟩:=S.ex
  walk_at "rd"
  refine zar hp T.cl_Rounds T.na_Rounds_rests ft.re ?_
  walk_at "rd"
  refine ⟨_,DPut.k (k:=Sum.inr x) S.hr (line_lt (by rw [zgx]; omega)),?_⟩
  rw [zpf hx]
  exact k _ (ow.trans own_g) S.set_r
def ztx (cC C Cm:Addr):Sp:=fun vs H Q E=>∃ a most nm q rs tu ch x,vs = [.ref a.p,.str x]/\Rx C Cm H a most nm q rs tu ch/\(shOf nm x=none->Rs cC H E)/\∀ s,shOf nm x=some s->Q (.int s) H
theorem zhx (T:Txt K mg c_WheelError c_NoName c_Taken c_NoClass c_NoPlace c_NoShare c_NoCurb c_NoLength c_TooEarly c_Bucket c_Members c_Chooser c_Starts c_Rounds c_Node c_Tree):MethD P w K mg base (CXX P w) 3 c_Rounds "share_of" ["self", "name"] [[]] (ztx c_NoClass c_Rounds c_Members):=by
 have M_Members_share_of:=zff (P:=P) (w:=w) (base:=base) T
 refine T.me_Rounds_share_of.okX (k:=2) zhc (fun vs H Q E h=>?_) (fun f cdv A outer s H vs Q E hr h=>?_)
 ·obtain ⟨a,most,nm,q,rs,tu,ch,x,rfl,_⟩:=h
  rfl
 ·obtain ⟨a,most,nm,q,rs,tu,ch,x,rfl,S,kx,k⟩:=h
  refine ⟨_,(zaf (zax (zap (dvs:=[]) M_Members_share_of (by simp) T.cl_Members (hr.mono (by decide)) passF (zbe (pv 0) rfl) (zaa (pv 1) zag)))),?_⟩
  show tRet _ _ [some (.ref a.p),some (.str x)] H
  obtain ⟨dx,fs,hp,ft⟩:=S.ex
  obtain ⟨dm,fm,hpm,hfm,hno,hlen⟩:=S.mb.ex
  walk_at "rd"
  refine zar hp T.cl_Rounds T.na_Rounds_members ft.me ?_
  exact zav hpm (hno _ (by decide +kernel)) ⟨a.pm,a.ps,nm,x,rfl,S.mb,kx,k⟩
def zwk (cC C Cm:Addr):Sp:=fun vs H Q E=>∃ a most nm q rs tu ch x,vs = [.ref a.p,.str x]/\Rx C Cm H a most nm q rs tu ch/\(shOf nm x=none->Rs cC H E)/\∀ s,shOf nm x=some s->0<allS nm/\allS nm<1000000000000/\∀ q,H q=none->Q (.ref q) (upd H q (.tup (fq ((s:Rat) / (allS nm:Rat)))))
theorem zlf (T:Txt K mg c_WheelError c_NoName c_Taken c_NoClass c_NoPlace c_NoShare c_NoCurb c_NoLength c_TooEarly c_Bucket c_Members c_Chooser c_Starts c_Rounds c_Node c_Tree):MethD P w K mg base (CXX P w) 4 c_Rounds "part" ["self", "name"] [[]] (zwk c_NoClass c_Rounds c_Members):=by
 have M_Members_part:=zgl (P:=P) (w:=w) (base:=base) T
 refine T.me_Rounds_part.okX (k:=3) zjq (fun vs H Q E h=>?_) (fun f cdv A outer s H vs Q E hr h=>?_)
 ·obtain ⟨a,most,nm,q,rs,tu,ch,x,rfl,_⟩:=h
  rfl
 ·obtain ⟨a,most,nm,q,rs,tu,ch,x,rfl,S,kx,k⟩:=h
  refine ⟨_,(zaf (zax (zap (dvs:=[]) M_Members_part (by simp) T.cl_Members (hr.mono (by decide)) passF (zbe (pv 0) rfl) (zaa (pv 1) zag)))),?_⟩
  show tRet _ _ [some (.ref a.p),some (.str x)] H
  obtain ⟨dx,fs,hp,ft⟩:=S.ex
  obtain ⟨dm,fm,hpm,hfm,hno,hlen⟩:=S.mb.ex
  walk_at "rd"
  refine zar hp T.cl_Rounds T.na_Rounds_members ft.me ?_
  exact zav hpm (hno _ (by decide +kernel)) ⟨a.pm,a.ps,nm,x,rfl,S.mb,kx,k⟩
def zwl (C Cm:Addr):Sp:=fun vs H Q _=>∃ a most nm q rs tu ch x s,vs = [.ref a.p,.str x]/\Rx C Cm H a most nm q rs tu ch/\shOf nm x=some s/\1<=s/\s<=1000000/\1<=most/\most<=1000000/\Q (.int (s*most)) H
theorem zhe (T:Txt K mg c_WheelError c_NoName c_Taken c_NoClass c_NoPlace c_NoShare c_NoCurb c_NoLength c_TooEarly c_Bucket c_Members c_Chooser c_Starts c_Rounds c_Node c_Tree):MethD P w K mg base (CXX P w) 4 c_Rounds "full_rest" ["self", "name"] [[]] (zwl c_Rounds c_Members):=by
 have M_Rounds_share_of:=zhx (P:=P) (w:=w) (base:=base) T
 refine T.me_Rounds_full_rest.okN (k:=3) zgo (fun vs H Q E h=>?_) (fun f cdv A outer s H vs Q E hr h=>?_)
 ·obtain ⟨a,most,nm,q,rs,tu,ch,x,s,rfl,_⟩:=h
  rfl
 ·obtain ⟨a,most,nm,q,rs,tu,ch,x,s,rfl,S,hx,s0,s1,m0,m1,k⟩:=h
  refine ⟨_,(zaf (zax (pe_op zhj (zap (dvs:=[]) M_Rounds_share_of (by simp) T.cl_Rounds (hr.mono (by decide)) passN (pv 0) (zaa (pv 1) zag)) (zbe (pv 0) rfl)))),?_⟩
  show tRet _ _ [some (.ref a.p),some (.str x)] H
  obtain ⟨dx,fs,hp,ft⟩:=S.ex
  walk_at "rd"
  refine S.meth (by decide +kernel) ⟨a,most,nm,q,rs,tu,ch,x,rfl,S,fun z=>(by rw [hx] at z; cases z),fun s' hs'=>?_⟩
  rw [hx] at hs'
  cases hs'
  refine zar hp T.cl_Rounds T.na_Rounds_most ft.mo ?_
  have zs:Sw.Sz 70 s:=Sw.Sz.r18 (by omega) (by omega)
  have zm:Sw.Sz 70 most:=Sw.Sz.r18 (by omega) (by omega)
  exact ⟨_,rfl,_,rfl,⟨zs.mono (by decide),zm.mono (by decide)⟩,k⟩
def zyf (C Cm:Addr):Sp:=fun vs H Q _=>∃ a most nm q rs tu ch x s r,vs = [.ref a.p,.str x]/\Rx C Cm H a most nm q rs tu ch/\rs.length<900/\shOf nm x=some s/\shOf rs x=some r/\1<=s/\s<=1000000/\1<=most/\most<=1000000/\∀ H',Own a H H'->Rx C Cm H' a most nm q (putN rs x (if s*most<r then s*most else r)) tu ch->Q .non H'
theorem zjf (T:Txt K mg c_WheelError c_NoName c_Taken c_NoClass c_NoPlace c_NoShare c_NoCurb c_NoLength c_TooEarly c_Bucket c_Members c_Chooser c_Starts c_Rounds c_Node c_Tree):MethD P w K mg base (CXX P w) 5 c_Rounds "fit_in" ["self", "name"] [[]] (zyf c_Rounds c_Members):=by
 have M_Rounds_full_rest:=zhe (P:=P) (w:=w) (base:=base) T
 refine T.me_Rounds_fit_in.okN (k:=4) zic (fun vs H Q E h=>?_) (fun f cdv A outer s H vs Q E hr h=>?_)
 ·obtain ⟨a,most,nm,q,rs,tu,ch,x,s,r,rfl,_⟩:=h
  rfl
 ·obtain ⟨a,most,nm,q,rs,tu,ch,x,s,r,rfl,S,lr,hx,hr',s0,s1,m0,m1,k⟩:=h
  refine ⟨_,(zaf (zfx (hu_of hr) (zbe (pv 0) rfl) (pv 1) (zck (zrb rfl) rfl T.no_min boot_min (zaa (zdk (hu_of hr) (zbe (pv 0) rfl) (pv 1) (fun _ _=>rfl)) (zaa (zap (dvs:=[]) M_Rounds_full_rest (by simp) T.cl_Rounds (hr.mono (by decide)) passN (pv 0) (zaa (pv 1) zag)) zag))) rfl)),?_⟩
  show (_:TS) _ [some (.ref a.p),some (.str x)] H
  obtain ⟨dx,fs,hp,ft⟩:=S.ex
  walk_at "rd"
  refine zar hp T.cl_Rounds T.na_Rounds_rests ft.re ?_
  walk_at "rd"
  have hg:=DGet.k (k:=Sum.inr x) S.hr
  rw [zhq,hr'] at hg
  refine ⟨.int r,hg,?_⟩
  refine S.meth (by decide +kernel) ⟨a,most,nm,q,rs,tu,ch,x,s,rfl,S,hx,s0,s1,m0,m1,?_⟩
  refine ⟨_,rfl,_,rfl,?_⟩
  refine zar hp T.cl_Rounds T.na_Rounds_rests ft.re ?_
  walk_at "rd"
  refine ⟨_,DPut.k (k:=Sum.inr x) S.hr (line_lt (by rw [zgx]; omega)),?_⟩
  rw [zpg (by rw [hr']; simp)]
  exact k _ own_g S.set_r
section
variable {most:Int} {nm:Nm} {q:List Str} {rs:Nm} {tu:Option Str}
theorem zyg (h:Sw.RI most nm q rs tu):rs.length=nm.length/\q.length<=nm.length:=by
 have e1:=congrArg List.length h.ks
 have e2:=h.pm.length_eq
 rw [List.length_map,List.length_map] at e1
 rw [List.length_append,List.length_map] at e2
 exact ⟨e1,by omega⟩
end
def zyh (cT cS C Cm:Addr):Sp:=fun vs H Q E=>∃ a most nm q rs tu ch x s,vs = [.ref a.p,.str x,.int s]/\Rx C Cm H a most nm q rs tu ch/\Sw.RI most nm q rs tu/\nm.length<90/\(shOf nm x≠none->Rs cT H E)/\(shOf nm x=none->¬ (1<=s/\s<=1000000)->Rs cS H E)/\(shOf nm x=none->1<=s/\s<=1000000->∀ H',Own a H H'->Rx C Cm H' a most (nm++[(x,s)]) (q++[x]) (rs++[(x,0)]) tu ch->Q .non H')
theorem znf (T:Txt K mg c_WheelError c_NoName c_Taken c_NoClass c_NoPlace c_NoShare c_NoCurb c_NoLength c_TooEarly c_Bucket c_Members c_Chooser c_Starts c_Rounds c_Node c_Tree):MethD P w K mg base (CXX P w) 3 c_Rounds "put" ["self", "name", "share"] [[]] (zyh c_Taken c_NoShare c_Rounds c_Members):=by
 have M_Members_put:=zhd (P:=P) (w:=w) (base:=base) T
 have M_Rounds_enter:=zjw (P:=P) (w:=w) (base:=base) T
 refine T.me_Rounds_put.okX (k:=2) zlc (fun vs H Q E h=>?_) (fun f cdv A outer s H vs Q E hr h=>?_)
 ·obtain ⟨a,most,nm,q,rs,tu,ch,x,s,rfl,_⟩:=h
  rfl
 ·obtain ⟨a,most,nm,q,rs,tu,ch,x,s,rfl,S,h,nl,kt,ks,k⟩:=h
  refine ⟨_,(zad (zbg (zap (dvs:=[]) M_Members_put (by simp) T.cl_Members (hr.mono (by decide)) passF (zbe (pv 0) rfl) (zaa (pv 1) (zaa (pv 2) zag)))) (zaf (zbg (zap (dvs:=[]) M_Rounds_enter (by simp) T.cl_Rounds (hr.mono (by decide)) passF (pv 0) (zaa (pv 1) zag))))),?_⟩
  show tSeq _ _ _ [some (.ref a.p),some (.str x),some (.int s)] H
  obtain ⟨dx,fs,hp,ft⟩:=S.ex
  obtain ⟨dm,fm,hpm,hfm,hno,hlen⟩:=S.mb.ex
  obtain ⟨l1,l2⟩:=zyg h
  refine zae fun R hR=>?_
  walk_at "rd"
  refine zar hp T.cl_Rounds T.na_Rounds_members ft.me ?_
  refine zav hpm (hno _ (by decide +kernel)) ⟨a.pm,a.ps,nm,x,s,rfl,S.mb,by omega,kt,ks,fun hx hs=>hR _ _ ?_⟩
  have S:=S.set_s (nm':=nm++[(x,s)])
  have ow:Own a H (upd H a.ps (.dK (kvsOf (nm++[(x,s)])))):=own_s
  generalize upd H a.ps (.dK (kvsOf (nm++[(x,s)])))=H1 at S ow ⊢
  walk_at "rd"
  exact S.meth (by decide +kernel) ⟨a,most,_,q,rs,tu,ch,x,rfl,S,by omega,by omega,(by rw [Sw.sh_none,h.ks,<- Sw.sh_none]; exact hx),fun H' o' S'=>k hx hs H' (ow.trans o') S'⟩
def zwm (cC cS C Cm:Addr):Sp:=fun vs H Q E=>∃ a most nm q rs tu ch x s,vs = [.ref a.p,.str x,.int s]/\Rx C Cm H a most nm q rs tu ch/\nm.length<=90/\rs.length<=90/\1<=most/\most<=1000000/\(shOf nm x=none->Rs cC H E)/\(shOf nm x≠none->¬ (1<=s/\s<=1000000)->Rs cS H E)/\(shOf nm x≠none->1<=s/\s<=1000000->∃ r,shOf rs x=some r/\∀ H',Own a H H'->Rx C Cm H' a most (putN nm x s) q (putN rs x (if s*most<r then s*most else r)) tu ch->Q .non H')
theorem zie (T:Txt K mg c_WheelError c_NoName c_Taken c_NoClass c_NoPlace c_NoShare c_NoCurb c_NoLength c_TooEarly c_Bucket c_Members c_Chooser c_Starts c_Rounds c_Node c_Tree):MethD P w K mg base (CXX P w) 6 c_Rounds "reshare" ["self", "name", "share"] [[]] (zwm c_NoClass c_NoShare c_Rounds c_Members):=by
 have M_Members_reshare:=zfl (P:=P) (w:=w) (base:=base) T
 have M_Rounds_fit_in:=zjf (P:=P) (w:=w) (base:=base) T
 refine T.me_Rounds_reshare.okX (k:=5) zhw (fun vs H Q E h=>?_) (fun f cdv A outer s H vs Q E hr h=>?_)
 ·obtain ⟨a,most,nm,q,rs,tu,ch,x,s,rfl,_⟩:=h
  rfl
 ·obtain ⟨a,most,nm,q,rs,tu,ch,x,s,rfl,S,nl,rl,m0,m1,kc,ks,k⟩:=h
  refine ⟨_,(zad (zbg (zap (dvs:=[]) M_Members_reshare (by simp) T.cl_Members (hr.mono (by decide)) passF (zbe (pv 0) rfl) (zaa (pv 1) (zaa (pv 2) zag)))) (zaf (zbg (zap (dvs:=[]) M_Rounds_fit_in (by simp) T.cl_Rounds (hr.mono (by decide)) passF (pv 0) (zaa (pv 1) zag))))),?_⟩
  show tSeq _ _ _ [some (.ref a.p),some (.str x),some (.int s)] H
  obtain ⟨dx,fs,hp,ft⟩:=S.ex
  obtain ⟨dm,fm,hpm,hfm,hno,hlen⟩:=S.mb.ex
  refine zae fun R hR=>?_
  walk_at "rd"
  refine zar hp T.cl_Rounds T.na_Rounds_members ft.me ?_
  refine zav hpm (hno _ (by decide +kernel)) ⟨a.pm,a.ps,nm,x,s,rfl,S.mb,by omega,kc,ks,fun hx hs=>hR _ _ ?_⟩
  obtain ⟨r,hr',k⟩:=k hx hs
  obtain ⟨s0,s1⟩:=hs
  have S:=S.set_s (nm':=putN nm x s)
  have ow:Own a H (upd H a.ps (.dK (kvsOf (putN nm x s)))):=own_s
  generalize upd H a.ps (.dK (kvsOf (putN nm x s)))=H1 at S ow ⊢
  walk_at "rd"
  refine S.meth (by decide +kernel) ⟨a,most,_,q,rs,tu,ch,x,s,r,rfl,S,by omega,?_,hr',s0,s1,m0,m1,fun H' o' S'=>k H' (ow.trans o') S'⟩
  rw [zgy,if_pos rfl]
  cases e:shOf nm x with
  | none=>exact absurd e hx
  | some v=>rfl
def spBI (cN C:Addr):Sp:=fun vs H Q E=>∃ x dx d pr r s,vs = [.ref x,.int d,.ref pr,.int s]/\H x=some (.ins C dx [])/\H pr=some (.tup (fq r))/\Sw.SzQ 5000 r /\
 (1<=d/\0<=r->∀ H',But x H H'->Bk C H' x d r s (d:Rat)->Q .non H') /\
 (¬ (1<=d/\0<=r)->∀ e H1,Same H H1->H1 e=none->E (.ref e) none (upd H1 e (excO e cN none false)))
theorem zty (T:Txt K mg c_WheelError c_NoName c_Taken c_NoClass c_NoPlace c_NoShare c_NoCurb c_NoLength c_TooEarly c_Bucket c_Members c_Chooser c_Starts c_Rounds c_Node c_Tree):MkD P w K mg base (CXX P w) 3 c_Bucket ["self", "depth", "rate", "start"] [[],[V.int 0]] (spBI c_NoCurb c_Bucket):=by
 have D_under:=zwf (P:=P) (w:=w) (base:=base) T
 have D_ratio:=zld (P:=P) (w:=w) (base:=base) T
 refine T.in_Bucket.okX (k:=2) zjk (fun vs H Q E h=>?_) (fun f cdv A outer s H vs Q E hr h=>?_)
 ·obtain ⟨x,dx,d,pr,r,s,rfl,_⟩:=h
  rfl
 ·obtain ⟨x,dx,d,pr,r,st,rfl,hx,hpr,sr,k,kx⟩:=h
  refine ⟨_,(zad (ps_if (zay op_lt (pv 1) zah (zbc _)) (zaf (zcl K rfl rfl zem (zen T.ex_NoCurb T.kp_NoCurb rfl T.mg_NoCurb (zaa zaq zag)))) zaw) (zad (ps_if (zhy (zba D_under (hr.mono (by decide)) rfl passF (zaa (pv 2) (zaa (zgi (zaa zah (zaa zah zag))) zag)))) (zaf (zcl K rfl rfl zem (zen T.ex_NoCurb T.kp_NoCurb rfl T.mg_NoCurb (zaa zaq zag)))) zaw) (zad (zcf (pv 0) (pv 1) rfl) (zad (zcf (pv 0) (pv 2) rfl) (zad (zcf (pv 0) (pv 3) rfl) (zaf (zcf (pv 0) (zba D_ratio (hr.mono (by decide)) rfl passF (zaa (pv 1) (zaa zah zag))) rfl))))))),?_⟩
  show tSeq _ _ _ [some (.ref x),some (.int d),some (.ref pr),some (.int st)] H
  refine zae fun R hR=>?_
  have tail:1<=d->R [some (.ref x),some (.int d),some (.ref pr),some (.int st)] H:=fun hd=>by
   refine hR _ _ ?_
   refine zae fun R hR=>?_
   walk_at "rd"
   intro t ht
   refine ⟨pr,t,r,0,rfl,zak ht _ _ hpr,zxv (n:=0),sr,zvp (Sw.Sz.zero _),?_⟩
   walk_at "rd"
   refine ite2 (fun h e he=>⟨c_NoCurb,none,zac,T.xc_NoCurb,?_⟩) (fun h=>hR _ _ ?_)
   ·rw [zeh]
    exact kx (fun z=>by grind) e _ (zak ht) he
   ·have s1:=zak (o:=.tup [.int 0,.int 1]) ht
    have hx:=s1 _ _ hx
    have hpr:=s1 _ _ hpr
    generalize upd H t (.tup [.int 0,.int 1])=H1 at s1 hx hpr ⊢
    have np:pr≠x:=ne_of hpr hx (by intro w; cases w)
    refine zae fun R hR=>?_
    walk_at "rd"
    refine zcg hx T.cl_Bucket T.na_Bucket_depth (by simp) (hR _ _ ?_)
    refine zae fun R hR=>?_
    walk_at "rd"
    refine zcg zac T.cl_Bucket T.na_Bucket_rate (by have:=zan (fs:=[]) (f := "depth") (v:=.int d); simp only [List.length_nil] at this; omega) (hR _ _ ?_)
    rw [zeh]
    refine zae fun R hR=>?_
    walk_at "rd"
    have l1:=zan (fs:=[]) (f := "depth") (v:=.int d)
    have l2:=zan (fs:=putF "depth" (.int d) []) (f := "rate") (v:=.ref pr)
    have l3:=zan (fs:=putF "rate" (.ref pr) (putF "depth" (.int d) [])) (f := "since") (v:=.int st)
    simp only [List.length_nil] at l1
    refine zcg zac T.cl_Bucket T.na_Bucket_since (by omega) (hR _ _ ?_)
    rw [zeh]
    walk_at "rd"
    refine ⟨d,1,1,rfl,by decide,Sw.Sz.one _,fun _ p hp=>?_,fun z=>absurd z (by decide)⟩
    have nx:x≠p:=by
     intro z
     rw [z,zac] at hp
     cases hp
    walk_at "rd"
    refine zcg (C:=c_Bucket) (dx:=dx) (fs:=putF "since" (.int st) (putF "rate" (.ref pr) (putF "depth" (.int d) []))) (by rw [zai nx,zac]) T.cl_Bucket T.na_Bucket_left (by omega) ?_
    refine k ⟨hd,by grind⟩ _ (fun b o n e=>?_) ⟨dx,_,pr,p,zac,FB.mk0 d pr st p,?_,?_⟩
    ·have e1:=s1 _ _ e
     rw [zai n,zai,zai n]
     ·exact e1
     ·intro z
      rw [zai (Ne.symm nx)] at hp
      rw [z,hp] at e1
      cases e1
    ·rw [zai np,zai,zai np]
     ·exact hpr
     ·intro z
      rw [zai (Ne.symm nx)] at hp
      rw [z,hp] at hpr
      cases hpr
    ·rw [zai (Ne.symm nx),zac]
     have:((d:Int):Rat) / ((1:Int):Rat)=(d:Rat):=by
      have:((1:Int):Rat) = 1:=rfl
      rw [this]; grind
     rw [this]
  walk_at "rd"
  refine ite2 (fun h e he=>⟨c_NoCurb,none,zac,T.xc_NoCurb,?_⟩) (fun h=>tail (by omega))
  rw [zeh]
  exact kx (fun z=>by omega) e _ (Same.refl _) he
theorem zjx (T:Txt K mg c_WheelError c_NoName c_Taken c_NoClass c_NoPlace c_NoShare c_NoCurb c_NoLength c_TooEarly c_Bucket c_Members c_Chooser c_Starts c_Rounds c_Node c_Tree):Def P w K mg base (CXX P w) 1 "_law_cell_at" ["_law_script", "_law_k"] (zuk K):=by
 refine T.src__law_cell_at.okN (k:=0) ziy (fun vs H Q E h=>?_) (fun f cdv A outer s H vs Q E hr h=>?_)
 ·obtain ⟨a,ns,i,rfl,_⟩:=h
  rfl
 ·obtain ⟨a,ns,i,rfl,hS,hi,k⟩:=h
  refine ⟨_,(zad (ps_if (zay op_lt (pv 1) (zck (zfv K rfl) rfl T.no_len boot_len (zaa (pv 0) zag)) (zbc _)) (zaf (zax (pe_ix (zaz K rfl) (pv 0) (pv 1) (fun _ _=>rfl)))) zaw) (zaf (zax zah))),?_⟩
  refine ⟨_,rfl,_,rfl,a,_,rfl,.inl hS,_,_,rfl,rfl,_,rfl,?_⟩
  refine ite2 (fun h=>?_) (fun h=>?_)
  ·have h':i<(ns.map V.int).length:=of_decide_eq_true h
   exact ⟨_,rfl,_,rfl,a,_,_,_,rfl,rfl,hS,zqc hi (by simpa using h'),k⟩
  ·have h':¬ i<(ns.map V.int).length:=fun z=>h (decide_eq_true z)
   show Q (.int 0) H
   rw [znr hi (by simpa using h')] at k
   exact k
theorem zpn (xs:List V) (n:Nat) (h:n<=xs.length):cutV xs (some (n:Int)) none=xs.drop n:=by
 unfold cutV
 rw [HT.sIx_none,HT.sIx_nat,Nat.min_eq_left h]
 exact List.take_of_length_le (by rw [List.length_drop]; omega)
def ztz:Sp:=fun vs H Q _=>∃ c mn,vs = [.int c,.int ((mn:Nat):Int)]/\mn<=60/\∀ p (ms:List Int) H',Same H H'->H p=none->H' p=some (.lst (ms.map V.int))->ms.length=mn->(∀ m∈ms,0<=m/\m<2147483647)->Q (.ref p) H'
theorem zlg (T:Txt K mg c_WheelError c_NoName c_Taken c_NoClass c_NoPlace c_NoShare c_NoCurb c_NoLength c_TooEarly c_Bucket c_Members c_Chooser c_Starts c_Rounds c_Node c_Tree):Def P w K mg base (CXX P w) 1 "_law_stream" ["_law_cell", "_law_many"] ztz:=by
 refine T.src__law_stream.okN (k:=0) sc__law_stream (fun vs H Q E h=>?_) (fun f cdv A outer s H vs Q E hr h=>?_)
 ·obtain ⟨c,mn,rfl,_⟩:=h
  rfl
 ·obtain ⟨c,mn,rfl,mn6,k⟩:=h
  refine ⟨_,(zad (zbd (i:=2) sc__law_stream.nd rfl (by first|left;rfl|right;rfl) (zdy zag)) (zad (zbd (i:=3) sc__law_stream.nd rfl (by first|left;rfl|right;rfl) (pe_op zeu (pe_op zcm (pv 0) zah) zah)) (zad (zon PassesOwn.never rfl (zls rfl T.no_range (zaa (pe_op zeu (pv 1) zah) zag)) (zfn (i:=4) sc__law_stream.nd rfl (by first|left;rfl|right;rfl)) (zad (zbd (i:=3) sc__law_stream.nd rfl (by first|left;rfl|right;rfl) (pe_op zcm (pe_op zeu (pe_op zeu (pe_op zhj (pv 3) (pv 3)) (pe_op zhj zah (pv 3))) (pv 4)) zah)) (zaf (zbg (pe_bm PySem.F.plainAttrs_list PySem.F.slot_list_append PySem.F.type_list_append zfu (pv 2) (zaa (pv 3) zag)))))) (zaf (zax (zig (zih K rfl) (pv 2) (zis zah) zno)))))),?_⟩
  show tSeq _ _ _ [some (.int c),some (.int ((mn:Nat):Int)),none,none,none] H
  refine zae fun R hR=>?_
  walk_at "rd"
  intro p0 hp0
  refine hR _ _ ?_
  have s0:=zak (o:=.lst []) hp0
  have h0:upd H p0 (.lst []) p0=some (.lst (([]:List Int).map V.int)):=zac
  generalize upd H p0 (.lst [])=H0 at s0 h0 ⊢
  refine zae fun R hR=>?_
  walk_at "rd"
  refine hR _ _ ?_
  have e1:=Int.emod_nonneg c (show (2147483647:Int)≠0 by decide)
  have e2:=Int.emod_lt_of_pos c (show (0:Int)<2147483647 by decide)
  generalize hx:c % 2147483647+48271=x
  have x0:0<=x:=by omega
  have x1:x<3000000000:=by omega
  clear hx e1 e2
  refine zae fun R hR=>?_
  refine zii fun Z hZ=>?_
  walk_at "rd"
  have e1:((mn:Int)+1).toNat=mn+1:=by omega
  rw [e1]
  refine ⟨by omega,by omega,hZ _ _ ?_⟩
  refine zlt (fun i σ H'=>∃ n v4 ms,σ = [some (.int c),some (.int ((mn:Nat):Int)),some (.ref p0),some (.int n),v4]/\Same H H'/\H' p0=some (.lst ((ms:List Int).map V.int))/\ms.length=i/\(∀ m∈ms,0<=m/\m<2147483647)/\0<=n/\n<3000000000) ⟨x,none,[],rfl,s0,h0,rfl,fun m h=>absurd h List.not_mem_nil,x0,x1⟩ ?_ ?_
  ·rintro i σ H1 hi ⟨n,v4,ms,rfl,sm,hl,lm,mm,n0,n1⟩
   show tSeq _ _ _ [some (.int c),some (.int ((mn:Nat):Int)),some (.ref p0),some (.int n),some (.int (0+(i:Int)))] H1
   have zn:Sw.Sz 70 n:=Sw.Sz.r18 (by omega) (by omega)
   refine zae fun R hR=>?_
   walk_at "rd"
   refine ⟨⟨zn.mono (by decide),zn.mono (by decide)⟩,⟨Sw.Sz.lit (by decide),zn.mono (by decide)⟩,hR _ _ ?_⟩
   generalize hy:(n*n+48271*n+(0+(i:Int))) % 2147483647=y
   have y0:0<=y:=by rw [<- hy]; exact Int.emod_nonneg _ (by decide)
   have y1:y<2147483647:=by rw [<- hy]; exact Int.emod_lt_of_pos _ (by decide)
   refine znw fun R hR=>?_
   walk_at "rd"
   refine ⟨zpa hl,zrw hl (by rw [List.length_map]; omega) (hR _ _ ?_)⟩
   refine ⟨y,_,ms++[y],rfl,fun b o e=>?_,by rw [zac,List.map_append]; rfl,by simp [lm],fun m h=>?_,y0,by omega⟩
   ·rw [zai (zao e hp0)]; exact sm _ _ e
   ·rcases List.mem_append.mp h with z | z
    ·exact mm m z
    ·have:m=y:=by simpa using z
     subst this
     exact ⟨y0,y1⟩
  ·rintro σ H1 ⟨n,v4,ms,rfl,sm,hl,lm,mm,n0,n1⟩
   refine hR _ _ ?_
   walk_at "rd"
   refine zow (.of hl) fun p hp=>?_
   have lm:ms.length=mn+1:=by simpa using lm
   have ec:=zpn (ms.map V.int) 1 (by rw [List.length_map]; omega)
   refine k p (ms.drop 1) _ (sm.trans (zak hp)) (sm.free hp) (by rw [zac]; exact congrArg (fun z=>some (HO.lst z)) (ec.trans (by rw [List.map_drop]))) (by rw [List.length_drop,lm]; omega) fun m h=>mm m (List.mem_of_mem_drop h)
def spCM (cL:Addr):Sp:=fun vs H Q E=>∃ m:Int,vs = [.int m]/\(1<=m/\m<=1000000->Q .non H)/\(¬ (1<=m/\m<=1000000)->Rs cL H E)
theorem zng (T:Txt K mg c_WheelError c_NoName c_Taken c_NoClass c_NoPlace c_NoShare c_NoCurb c_NoLength c_TooEarly c_Bucket c_Members c_Chooser c_Starts c_Rounds c_Node c_Tree):Def P w K mg base (CXX P w) 1 "check_most" ["most"] (spCM c_NoLength):=by
 refine T.src_check_most.okX (k:=0) zky (fun vs H Q E h=>?_) (fun f cdv A outer s H vs Q E hr h=>?_)
 ·obtain ⟨m,rfl,_⟩:=h
  rfl
 ·obtain ⟨m,rfl,k,kx⟩:=h
  refine ⟨_,(zaf (ps_if (zim (zkl op_le op_le zah (pv 0) (zgu rfl T.mg_GREATEST_LENGTH))) (zaf (zcl K rfl rfl zem (zen T.ex_NoLength T.kp_NoLength rfl T.mg_NoLength (zaa zaq zag)))) zaw)),?_⟩
  show tIfS _ _ _ _ [some (.int m)] H
  walk_at "rd"
  refine ite2 (fun c1=>ite2 (fun c2=>k ⟨c1,c2⟩) fun c2=>rs_of (kx fun q=>c2 q.2) T.xc_NoLength) fun c1=>rs_of (kx fun q=>c1 q.1) T.xc_NoLength
def spIN:Sp:=fun vs H Q _=>∃ z:Str,vs = [.str z]/\z.length<=10000/\∀ H',Same H H'->Q (.bl (decide (zeo z))) H'
theorem zsm (T:Txt K mg c_WheelError c_NoName c_Taken c_NoClass c_NoPlace c_NoShare c_NoCurb c_NoLength c_TooEarly c_Bucket c_Members c_Chooser c_Starts c_Rounds c_Node c_Tree):Def P w K mg base (CXX P w) 1 "is_name" ["text"] spIN:=by
 refine T.src_is_name.okN (k:=0) zqj (fun vs H Q E h=>?_) (fun f cdv A outer s H vs Q E hr h=>?_)
 ·obtain ⟨z,rfl,_⟩:=h
  rfl
 ·obtain ⟨z,rfl,zl,k⟩:=h
  refine ⟨_,(zaf (zax (zio (zsy op_le op_le zah (zck zmd rfl T.no_len boot_len (zaa (pv 0) zag)) (zgu rfl T.mg_LONGEST_NAME)) (zlr (zck (zrq K rfl rfl) rfl T.no_all boot_all (zaa (pe_lc ["sign"] [] rfl (by with_unfolding_all rfl) (by decide +kernel) rfl (by decide +kernel) (by exact True.intro) (by with_unfolding_all rfl) True.intro (zxx (pv 0)) (fun _ _ _=>(zfn (i:=0) (show (["sign"]:List Str).Nodup from by decide +kernel) rfl (by first|left;rfl|right;rfl))) (fun _ _ _=>zos) (fun _ _ _=>(zei zxy (pv 0) (zgd rfl T.mg_LETTERS) rfl))) zag)))))),?_⟩
  show tRet _ _ [some (.str z)] H
  walk_at "rd"
  have no:∀ {H'},Same H H'->¬ zeo z->Q (.bl false) H':=fun s q=>by
   have:=k _ s
   rw [decide_eq_false q] at this
   exact this
  refine ⟨zkw (by omega),ite2 (fun c1=>ite2 (fun c2=>?_) fun c2=>no (Same.refl _) fun q=>c2 (by have:=q.1.2; omega)) fun c1=>no (Same.refl _) fun q=>c1 (by have:=q.1.1; omega)⟩
  simp only [iStr]
  walk_at "rd"
  intro D hD
  show CompG _ _ _ _ D [none] _ _
  refine ztp (fun i τ H'=>(∃ v,τ = [v])/\Same H H'/\H' D=some (.lst (((z.cps.toList.take i).map fun c=>decide (c∈lets.cps.toList)).map V.bl))) ⟨⟨none,rfl⟩,zak hD,zac⟩ ?_ ?_
  ·rintro i c τ H' hc ⟨⟨v,rfl⟩,s',hDl⟩
   have hi:=(List.getElem?_eq_some_iff.mp hc).1
   rw [Sw.len_list] at hi
   walk_at "rd"
   simp only [tYes,if_true]
   walk_at "rd"
   refine ⟨sg c,lets,rfl,rfl,?_⟩
   refine ⟨_,hDl,zkv (by rw [List.length_map,List.length_map,List.length_take]; omega),fun b o e=>?_,?_⟩
   ·rw [zai (zao e hD)]; exact s' _ _ e
   ·rw [zac,zpj hc,List.map_append,List.map_append]
    show some (HO.lst (_++[V.bl (Txt.contains lets (sg c))]))=some (HO.lst (_++[V.bl (decide (c∈lets.cps.toList))]))
    rw [Sw.in_str lets c]
  ·rintro τ H1 ⟨_,s1,hDl⟩
   rw [<- Sw.len_list,List.take_length] at hDl
   refine ⟨D,_,rfl,.of hDl,?_⟩
   have e:((z.cps.toList.map fun c=>decide (c∈lets.cps.toList)).all id)=decide (zeo z):=by
    rw [Bool.eq_iff_iff,List.all_eq_true,decide_eq_true_iff]
    constructor
    ·intro h
     refine ⟨⟨by omega,by omega⟩,fun c hc=>?_⟩
     have:=h _ (List.mem_map.mpr ⟨c,hc,rfl⟩)
     simpa using this
    ·intro h x hx
     obtain ⟨c,hc,rfl⟩:=List.mem_map.mp hx
     simpa using h.2 c hc
   rw [e]
   exact k _ s1
def spCO (cS cR cM:Addr):Sp:=fun vs H Q _=>∃ (kd:Str) (m:Int),vs = [.str kd,.int m]/\1<=m/\(Inner kd->∀ (a:At5) H',Same H H'->(∀ b∈five a,H b=none)->ChS cS cR cM H' a m (CSt.new (kdB kd))->Q (.ref a.p) H')/\(¬ Inner kd->Q .non H)
theorem zia (T:Txt K mg c_WheelError c_NoName c_Taken c_NoClass c_NoPlace c_NoShare c_NoCurb c_NoLength c_TooEarly c_Bucket c_Members c_Chooser c_Starts c_Rounds c_Node c_Tree):Def P w K mg base (CXX P w) 6 "chooser_of" ["kind", "most"] (spCO c_Starts c_Rounds c_Members):=by
 have K_Starts:=ztu (P:=P) (w:=w) (base:=base) T
 have K_Rounds:=ztv (P:=P) (w:=w) (base:=base) T
 refine T.src_chooser_of.okN (k:=5) zkz (fun vs H Q E h=>?_) (fun f cdv A outer s H vs Q E hr h=>?_)
 ·obtain ⟨c,m,rfl,_⟩:=h
  rfl
 ·obtain ⟨kd,m,rfl,m1,k,kn⟩:=h
  refine ⟨_,(zad (ps_if (zay op_eq (pv 0) zaq (zbc _)) (zaf (zax (zfq (dvs:=[]) K_Starts (by simp) (hr.mono (by decide)) passN rfl T.mg_Starts (zaa (pv 1) zag)))) zaw) (zad (ps_if (zay op_eq (pv 0) zaq (zbc _)) (zaf (zax (zfq (dvs:=[]) K_Rounds (by simp) (hr.mono (by decide)) passN rfl T.mg_Rounds (zaa (pv 1) zag)))) zaw) (zaf (zax zew)))),?_⟩
  show tSeq _ _ _ [some (.str kd),some (.int m)] H
  have no:∀ {H1:Hp} {b:Addr},Same H H1->H1 b=none->H b=none:=fun {H1 b} s e=>by
   cases z:H b with
   | none=>rfl
   | some o=>rw [s _ _ z] at e; cases e
  have nw:∀ {a:At5} {H1:Hp},Same H H1->H a.p=none->H1 a.pm=none->H1 a.ps=none->H1 a.pt=none->H1 a.pg=none->∀ b∈five a,H b=none:=fun {a H1} s h1 h2 h3 h4 h5 b hb=>by
   rcases mem_five.mp hb with z | z | z | z | z <;> subst z
   ·exact h1
   ·exact no s h2
   ·exact no s h3
   ·exact no s h4
   ·exact no s h5
  refine zae fun R hR=>?_
  walk_at "rd"
  refine ite2 (fun c1=>?_) fun c1=>hR _ _ ?_
  ·intro x dx hx hdx ne
   refine ⟨x,dx,m,rfl,zac,fun a H2 ea bt n1 n2 n3 n4 S=>⟨rfl,?_⟩⟩
   subst ea
   have e:kdB kd=false:=by rw [c1]; decide +kernel
   exact k (.inl c1) a H2 (bt.same (zdj hx hdx) hx) (nw (zdj hx hdx) hx n1 n2 n3 n4) (by rw [e]; exact S)
  clear hR
  refine zae fun R hR=>?_
  walk_at "rd"
  refine ite2 (fun c2=>?_) fun c2=>hR _ _ ?_
  ·intro x dx hx hdx ne
   refine ⟨x,dx,m,rfl,zac,fun a H2 ea bt n1 n2 n3 n4 S=>⟨rfl,?_⟩⟩
   subst ea
   have e:kdB kd=true:=by rw [c2]; decide +kernel
   exact k (.inr c2) a H2 (bt.same (zdj hx hdx) hx) (nw (zdj hx hdx) hx n1 n2 n3 n4) (by rw [e]; exact S)
  walk_at "rd"
  exact kn fun q=>q.elim c1 c2
def spNI (cN:Addr):Sp:=fun vs H Q _=>∃ x dx ab ch rm,vs = [.ref x,ab,ch,rm]/\H x=some (.ins cN dx [])/\∀ ql fs H',But x H H'->H ql=none->H' x=some (.ins cN dx fs)->FN fs ab ch rm .non ql->H' ql=some (.lst [])->Q .non H'
theorem zuv (T:Txt K mg c_WheelError c_NoName c_Taken c_NoClass c_NoPlace c_NoShare c_NoCurb c_NoLength c_TooEarly c_Bucket c_Members c_Chooser c_Starts c_Rounds c_Node c_Tree):MkD P w K mg base (CXX P w) 1 c_Node ["self", "above", "chooser", "room"] [[],[V.non]] (spNI c_Node):=by
 refine T.in_Node.okN (k:=0) zmy (fun vs H Q E h=>?_) (fun f cdv A outer s H vs Q E hr h=>?_)
 ·obtain ⟨x,dx,ab,ch,rm,rfl,_⟩:=h
  rfl
 ·obtain ⟨x,dx,ab,ch,rm,rfl,hx,k⟩:=h
  refine ⟨_,(zad (zcf (pv 0) (pv 1) rfl) (zad (zcf (pv 0) (pv 2) rfl) (zad (zcf (pv 0) (pv 3) rfl) (zad (zcf (pv 0) zew rfl) (zaf (zcf (pv 0) (zdy zag) rfl)))))),?_⟩
  show tSeq _ _ _ [some (.ref x),some ab,some ch,some rm] H
  have l1:=zan (fs:=[]) (f := "above") (v:=ab)
  have l2:=zan (fs:=putF "above" ab []) (f := "chooser") (v:=ch)
  have l3:=zan (fs:=putF "chooser" ch (putF "above" ab [])) (f := "room") (v:=rm)
  have l4:=zan (fs:=putF "room" rm (putF "chooser" ch (putF "above" ab []))) (f := "bucket") (v:=.non)
  simp only [List.length_nil] at l1
  refine zae fun R hR=>?_
  walk_at "rd"
  refine zcg hx T.cl_Node T.na_Node_above (by simp) (hR _ _ ?_)
  clear hR
  refine zae fun R hR=>?_
  walk_at "rd"
  refine zcg zac T.cl_Node T.na_Node_chooser (by omega) (hR _ _ ?_)
  clear hR
  rw [zeh]
  refine zae fun R hR=>?_
  walk_at "rd"
  refine zcg zac T.cl_Node T.na_Node_room (by omega) (hR _ _ ?_)
  clear hR
  rw [zeh]
  refine zae fun R hR=>?_
  walk_at "rd"
  refine zcg zac T.cl_Node T.na_Node_bucket (by omega) (hR _ _ ?_)
  clear hR
  rw [zeh]
  walk_at "rd"
  intro ql fql
  have nx:ql≠x:=fun z=>by rw [z,zac] at fql; cases fql
  have nql:H ql=none:=by rw [zai nx] at fql; exact fql
  refine zcg (by rw [zai (Ne.symm nx),zac]) T.cl_Node T.na_Node_queue (by omega) ?_
  refine k ql _ _ (fun b o n e=>?_) nql zac (FN.mk0 _ _ _ _ _) ?_
  ·rw [zai n,zai (zao e nql),zai n]; exact e
  ·rw [zai nx,zac]
def spCC (cC:Addr) (C:Cl):Sp:=fun vs H Q E=>∃ (D:TD) (x:Str),vs = [.ref D.p,.str x]/\TrOk C H D/\(x≠road->fndN D.ns x≠none->Q .non H)/\(x=road\/fndN D.ns x=none->Rs cC H E)
theorem zbj (T:Txt K mg c_WheelError c_NoName c_Taken c_NoClass c_NoPlace c_NoShare c_NoCurb c_NoLength c_TooEarly c_Bucket c_Members c_Chooser c_Starts c_Rounds c_Node c_Tree):MethD P w K mg base (CXX P w) 1 c_Tree "check_class" ["self", "name"] [[]] (spCC c_NoClass (⟨c_Node,c_Starts,c_Rounds,c_Members,c_Bucket,c_Tree⟩:Cl)):=by
 refine T.me_Tree_check_class.okX (k:=0) zgp (fun vs H Q E h=>?_) (fun f cdv A outer s H vs Q E hr h=>?_)
 ·obtain ⟨D,x,rfl,_⟩:=h
  rfl
 ·obtain ⟨D,x,rfl,O,k,kx⟩:=h
  refine ⟨_,(zaf (ps_if (PW.pt (pw_or (zay op_eq (pv 1) (zgd rfl T.mg_ROAD) (zbc _)) (zqr (zjz (zgv (hu_of hr) (pv 1) (zbe (pv 0) rfl)))))) (zaf (zcl K rfl rfl zem (zen T.ex_NoClass T.kp_NoClass rfl T.mg_NoClass (zaa zaq zag)))) zaw)),?_⟩
  show tIfS _ _ _ _ [some (.ref D.p),some (.str x)] H
  obtain ⟨dx,fs,hp,ft⟩:=O.ex
  walk_at "rd"
  refine ite2 (fun c1=>rs_of (kx (.inl c1)) T.xc_NoClass) fun c1=>?_
  refine zar hp T.cl_Tree T.na_Tree_nodes ft.no ?_
  walk_at "rd"
  refine ⟨_,DGet.k (k:=Sum.inr x) O.hn,?_⟩
  rw [zix]
  cases e:fndN D.ns x with
  | none=>exact rs_of (kx (.inr e)) T.xc_NoClass
  | some v=>exact k c1 (by rw [e]; simp)
def spFR (C:Cl):Sp:=fun vs H Q _=>∃ (D:TD) (x:Str) (ys:List Str),vs = [.ref D.p,.str x]/\TrOk C H D/\Up D.ns x ys/\ys.length<=900/\∀ l H',Same H H'->H l=none->H' l=some (.lst (ys.reverse.map V.str))->Q (.ref l) H'
theorem zft (T:Txt K mg c_WheelError c_NoName c_Taken c_NoClass c_NoPlace c_NoShare c_NoCurb c_NoLength c_TooEarly c_Bucket c_Members c_Chooser c_Starts c_Rounds c_Node c_Tree):MethD P w K mg base (CXX P w) 1 c_Tree "from_road" ["self", "name"] [[]] (spFR (⟨c_Node,c_Starts,c_Rounds,c_Members,c_Bucket,c_Tree⟩:Cl)):=by
 refine T.me_Tree_from_road.okN (k:=0) sc_Tree_from_road (fun vs H Q E h=>?_) (fun f cdv A outer s H vs Q E hr h=>?_)
 ·obtain ⟨D,x,ys,rfl,_⟩:=h
  rfl
 ·obtain ⟨D,x,ys,rfl,O,U,yl,k⟩:=h
  refine ⟨_,(zad (zbd (i:=2) sc_Tree_from_road.nd rfl (by first|left;rfl|right;rfl) (zdy zag)) (zad (zif PassesOwn.never (zay zgm (pv 1) zew (zbc _)) (zad (zbg (pe_bm PySem.F.plainAttrs_list PySem.F.slot_list_append PySem.F.type_list_append zfu (pv 2) (zaa (pv 1) zag))) (zaf (zbd (i:=1) sc_Tree_from_road.nd rfl (by first|left;rfl|right;rfl) (zbe (zdk (hu_of hr) (zbe (pv 0) rfl) (pv 1) (fun _ _=>rfl)) rfl))))) (zad (zbg (zxi PySem.F.plainAttrs_list PySem.F.slot_list_reverse PySem.F.type_list_reverse zqb (pv 2))) (zaf (zax (pv 2)))))),?_⟩
  show tSeq _ _ _ [some (.ref D.p),some (.str x),none] H
  refine zae fun R hR=>?_
  walk_at "rd"
  intro l hl
  have s0:=zak (o:=.lst []) hl
  refine hR _ _ ?_
  clear hR
  refine zae fun R hR=>?_
  refine zsc (fun m σ H'=>∃ (xo:Option Str) (zs ws:List Str),σ = [some (.ref D.p),some (optS xo),some (.ref l)]/\Same H H'/\H' l=some (.lst (zs.map V.str))/\ys=zs++ws/\(∀ z,xo=some z->Up D.ns z ws)/\(xo=none->ws = [])/\m=ws.length) ⟨some x,[],ys,rfl,s0,zac,rfl,fun z e=>(by cases e; exact U),fun e=>(by cases e),rfl⟩ ?_
  rintro m σ H1 ⟨xo,zs,ws,rfl,s1,h1,ey,hu,hn,rfl⟩
  cases xo with
  | none =>
   refine ⟨false,fun Q hQ=>?_,fun z=>(by cases z),fun _=>?_⟩
   ·walk_at "rd"
    exact hQ
   ·have:ws = []:=hn rfl
    subst this
    rw [List.append_nil] at ey
    subst ey
    refine hR _ _ ?_
    clear hR
    refine zae fun R hR=>?_
    walk_at "rd"
    refine ⟨zpa h1,l,_,rfl,rfl,h1,hR _ _ ?_⟩
    walk_at "rd"
    refine k l _ (fun b o e=>?_) hl ?_
    ·rw [zai (zao e hl)]; exact s1 _ _ e
    ·rw [zac,List.map_reverse]
  | some z =>
   have Uz:=hu z rfl
   obtain ⟨n,hz⟩:=Uz.fnd
   refine ⟨true,fun Q hQ=>?_,fun _=>?_,fun z=>by cases z⟩
   ·walk_at "rd"
    exact hQ
   ·have zl:zs.length<=900:=by rw [ey,List.length_append] at yl; omega
    refine zae fun R hR=>?_
    walk_at "rd"
    refine ⟨zpa h1,zrw h1 (by rw [List.length_map]; omega) (hR _ _ ?_)⟩
    clear hR
    have O1:=O.same s1
    have s2:Same H (upd H1 l (.lst (zs.map V.str++[.str z]))):=fun b o e=>by rw [zai (zao e hl)]; exact s1 _ _ e
    have O2:=O.same s2
    have h2:upd H1 l (.lst (zs.map V.str++[.str z])) l=some (.lst ((zs++[z]).map V.str)):=by rw [zac,List.map_append]; rfl
    show tAsg _ _ _ _ (upd H1 l (.lst (zs.map V.str++[.str z])))
    generalize upd H1 l (.lst (zs.map V.str++[.str z]))=H2 at s2 O2 h2 ⊢
    obtain ⟨dx,fs,hp,ft⟩:=O2.ex
    obtain ⟨nin,_⟩:=zcc hz
    obtain ⟨dn,fn,hnp,hft⟩:=(O2.nd n nin).ex
    walk_at "rd"
    refine zar hp T.cl_Tree T.na_Tree_nodes ft.no ?_
    walk_at "rd"
    refine ⟨_,nd_at O2 hz,?_⟩
    refine zar hnp T.cl_Node T.na_Node_above hft.ab ?_
    cases Uz with
    | top q1 q2 =>
     rw [hz] at q1; cases q1
     exact ⟨0,by simp,none,by rw [q2],s2,zs++[z],h2,[],by rw [List.append_nil]; exact ey,fun z e=>(by cases e),fun _=>rfl,rfl⟩
    | on q1 q2 q3 =>
     rw [hz] at q1; cases q1
     rename_i y ys'
     exact ⟨ys'.length,by simp,some y,by rw [q2],s2,zs++[z],h2,ys',by rw [ey]; simp,fun z e=>(by cases e; exact q3),fun e=>(by cases e),rfl⟩
def spCP (cP:Addr) (C:Cl):Sp:=fun vs H Q E=>∃ (D:TD) (u kd:Str) (n:ND) (ys:List Str),vs = [.ref D.p,.str u,.str kd]/\TrOk C H D/\fndN D.ns u=some n/\Up D.ns u ys/\ys.length<=900/\(∀ H',Same H H'->¬ (kdOk kd/\n.ch≠none/\ys.length<=5)->Rs cP H' E)/\(∀ H',Same H H'->kdOk kd/\n.ch≠none/\ys.length<=5->Q .non H')
theorem zhf (T:Txt K mg c_WheelError c_NoName c_Taken c_NoClass c_NoPlace c_NoShare c_NoCurb c_NoLength c_TooEarly c_Bucket c_Members c_Chooser c_Starts c_Rounds c_Node c_Tree):MethD P w K mg base (CXX P w) 2 c_Tree "check_place" ["self", "under", "kind"] [[]] (spCP c_NoPlace (⟨c_Node,c_Starts,c_Rounds,c_Members,c_Bucket,c_Tree⟩:Cl)):=by
 have M_Tree_from_road:=zft (P:=P) (w:=w) (base:=base) T
 refine T.me_Tree_check_place.okX (k:=1) zgq (fun vs H Q E h=>?_) (fun f cdv A outer s H vs Q E hr h=>?_)
 ·obtain ⟨D,u,kd,n,ys,rfl,_⟩:=h
  rfl
 ·obtain ⟨D,u,kd,n,ys,rfl,O,hu,U,yl,kx,k⟩:=h
  obtain ⟨t_INNER_KINDS,h_INNER_KINDS,w_INNER_KINDS⟩:=T.mg_INNER_KINDS
  refine ⟨_,(zad (ps_if (PW.pt (zil (zay op_ne (pv 2) (zgd rfl T.mg_LEAF) (zbc _)) (zik (zay (ziv K rfl) (pv 2) (zfi (v:=.ref t_INNER_KINDS) rfl h_INNER_KINDS rfl) rfl)))) (zaf (zcl K rfl rfl zem (zen T.ex_NoPlace T.kp_NoPlace rfl T.mg_NoPlace (zaa zaq zag)))) zaw) (zad (ps_if (zay zxe (zbe (zdk (hu_of hr) (zbe (pv 0) rfl) (pv 1) (fun _ _=>rfl)) rfl) zew (zbc _)) (zaf (zcl K rfl rfl zem (zen T.ex_NoPlace T.kp_NoPlace rfl T.mg_NoPlace (zaa zaq zag)))) zaw) (zaf (ps_if (zay op_gt (zck (zfv K rfl) rfl T.no_len boot_len (zaa (zap (dvs:=[]) M_Tree_from_road (by simp) T.cl_Tree (hr.mono (by decide)) passF (pv 0) (zaa (pv 1) zag)) zag)) (zgu rfl T.mg_LONGEST_WAY) (zbc _)) (zaf (zcl K rfl rfl zem (zen T.ex_NoPlace T.kp_NoPlace rfl T.mg_NoPlace (zaa zaq zag)))) zaw)))),?_⟩
  show tSeq _ _ _ [some (.ref D.p),some (.str u),some (.str kd)] H
  obtain ⟨dx,fs,hp,ft⟩:=O.ex
  obtain ⟨nin,_⟩:=zcc hu
  obtain ⟨dn,fn,hnp,hft⟩:=(O.nd n nin).ex
  refine zae fun R hR=>?_
  walk_at "rd"
  have on:kdOk kd->R [some (.ref D.p),some (.str u),some (.str kd)] H:=fun ok=>hR _ _ (by
   clear hR
   refine zae fun R hR=>?_
   walk_at "rd"
   refine zar hp T.cl_Tree T.na_Tree_nodes ft.no ?_
   walk_at "rd"
   refine ⟨_,nd_at O hu,?_⟩
   refine zar hnp T.cl_Node T.na_Node_chooser hft.ch ?_
   cases hc:n.ch with
   | none =>
    walk_at "rd"
    exact rs_of (kx H (Same.refl _) fun q=>q.2.1 hc) T.xc_NoPlace
   | some c =>
    show R _ _
    refine hR _ _ ?_
    walk_at "rd"
    refine zav hp (ft.mis _ (by decide +kernel) (by decide +kernel) (by decide +kernel) (by decide +kernel) (by decide +kernel) (by decide +kernel)) ⟨D,u,ys,rfl,O,U,yl,fun l H' s' hl e=>?_⟩
    refine zov (.of e) ⟨_,rfl,?_⟩
    rw [List.length_map,List.length_reverse]
    refine ite2 (fun c2=>rs_of (kx H' s' fun q=>by omega) T.xc_NoPlace) fun c2=>k H' s' ⟨ok,by rw [hc]; simp,by omega⟩)
  refine ite2 (fun c1=>on (.inl c1)) fun c1=>?_
  refine ⟨_,_,rfl,.inr (w_INNER_KINDS H),rfl,rfl,_,rfl,?_⟩
  rw [zkx,if_pos rfl]
  by_cases c2:Inner kd
  ·rw [if_neg (by simp [c2])]
   exact on (.inr c2)
  ·rw [if_pos (by simp [c2])]
   exact rs_of (kx H (Same.refl _) fun q=>q.1.elim c1 c2) T.xc_NoPlace
def spTP (cN cT cC cP cS cL:Addr) (C:Cl):Sp:=fun vs H Q E=>∃ (D:TD) (x u kd:Str) (s:Int) (rm:V),vs = [.ref D.p,.str x,.str u,.str kd,.int s,rm]/\TrOk C H D/\D.Wf/\D.fit/\StOk 10000 x/\(rm = .non\/∃ r,rm = .int r) /\
 (∀ r,dueP D x u kd s rm=some r->∀ H',Same H H'->Rs (r.at cN cT cC cP cS cL) H' E) /\
 (dueP D x u kd s rm=none->∀ (un:ND) (c:At5×CSt) (n:ND) H',fndN D.ns u=some un->un.ch=some c->n.nm=x->n.ab=some u->n.rm=rm->n.bk=none->n.ps = []->n.qu = []->(kd=Str.ofString "leaf" -> n.ch=none)->(Inner kd->∃ a,n.ch=some (a,CSt.new (kdB kd)))->(∀ b∈n.foot,H b=none)->TrOk C H' (D.put un c s n)->Deed D.foot H H'->Q .non H')
theorem zqk (T:Txt K mg c_WheelError c_NoName c_Taken c_NoClass c_NoPlace c_NoShare c_NoCurb c_NoLength c_TooEarly c_Bucket c_Members c_Chooser c_Starts c_Rounds c_Node c_Tree):MethD P w K mg base (CXX P w) 7 c_Tree "put" ["self", "name", "under", "kind", "share", "room"] [[],[V.non]] (spTP c_NoName c_Taken c_NoClass c_NoPlace c_NoShare c_NoLength (⟨c_Node,c_Starts,c_Rounds,c_Members,c_Bucket,c_Tree⟩:Cl)):=by
  have D_is_name:=zsm (P:=P) (w:=w) (base:=base) T
  have M_Tree_check_place:=zhf (P:=P) (w:=w) (base:=base) T
  have D_check_share:=zfr (P:=P) (w:=w) (base:=base) T
  have M_Starts_put:=zne (P:=P) (w:=w) (base:=base) T
  have M_Rounds_put:=znf (P:=P) (w:=w) (base:=base) T
  have K_Node:=zuv (P:=P) (w:=w) (base:=base) T
  have D_chooser_of:=zia (P:=P) (w:=w) (base:=base) T
  refine T.me_Tree_put.okX (k:=6) zod (fun vs H Q E h=>?_) (fun f cdv A outer s H vs Q E hr h=>?_)
  · obtain ⟨D,x,u,kd,s,rm,rfl,_⟩:=h
    rfl
  · obtain ⟨D,x,u,kd,s,rm,rfl,O,W,F,xl,hrm,kx,k⟩:=h
    refine ⟨_,(zad (ps_if (zim (zhy (zba D_is_name (hr.mono (by decide)) rfl passF (zaa (pv 1) zag)))) (zaf (zcl K rfl rfl zem (zen T.ex_NoName T.kp_NoName rfl T.mg_NoName (zaa zaq zag)))) zaw) (zad (ps_if (zjz (zpd (hu_of hr) (pv 1) (zbe (pv 0) rfl))) (zaf (zcl K rfl rfl zem (zen T.ex_Taken T.kp_Taken rfl T.mg_Taken (zaa zaq zag)))) zaw) (zad (ps_if (zjz (zgv (hu_of hr) (pv 2) (zbe (pv 0) rfl))) (zaf (zcl K rfl rfl zem (zen T.ex_NoClass T.kp_NoClass rfl T.mg_NoClass (zaa zaq zag)))) zaw) (zad (zbg (zap (dvs:=[]) M_Tree_check_place (by simp) T.cl_Tree (hr.mono (by decide)) passF (pv 0) (zaa (pv 2) (zaa (pv 3) zag)))) (zad (zbg (zba D_check_share (hr.mono (by decide)) rfl passF (zaa (pv 4) zag))) (zad (ps_if (PW.pt (zil (zay op_eq (pv 3) (zgd rfl T.mg_LEAF) (zbc _)) (zil (zay zgm (pv 5) zew (zbc _)) (zik (zay op_lt (pv 5) zah (zbc _)))))) (zaf (zcl K rfl rfl zem (zen T.ex_NoLength T.kp_NoLength rfl T.mg_NoLength (zaa zaq zag)))) zaw) (zad (zbg (zph (zap (dvs:=[]) M_Starts_put (by simp) T.cl_Starts (hr.mono (by decide)) passF (zbe (zdk (hu_of hr) (zbe (pv 0) rfl) (pv 2) (fun _ _=>rfl)) rfl) (zaa (pv 1) (zaa (pv 4) zag))) (zap (dvs:=[]) M_Rounds_put (by simp) T.cl_Rounds (hr.mono (by decide)) passF (zbe (zdk (hu_of hr) (zbe (pv 0) rfl) (pv 2) (fun _ _=>rfl)) rfl) (zaa (pv 1) (zaa (pv 4) zag))))) (zaf (zfx (hu_of hr) (zbe (pv 0) rfl) (pv 1) (zfq (dvs:=[]) K_Node (by simp) (hr.mono (by decide)) passF rfl T.mg_Node (zaa (pv 2) (zaa (zba D_chooser_of (hr.mono (by decide)) rfl passF (zaa (pv 3) (zaa (zbe (pv 0) rfl) zag))) (zaa (pv 5) zag)))) rfl))))))))),?_⟩
    show tSeq _ _ _ [some (.ref D.p),some (.str x),some (.str u),some (.str kd),some (.int s),some rm] H
    refine zae fun R hR=>?_
    walk_at "rd"
    refine ⟨x,rfl,xl.2,fun H1 s1=>?_⟩
    by_cases c1:zeo x
    case neg =>
      rw [decide_eq_false c1]
      walk_at "rd"
      exact rs_of (kx _ (zpk c1) H1 s1) T.xc_NoName
    rw [decide_eq_true c1]
    walk_at "rd"
    refine hR _ _ ?_
    clear hR
    have O1:=O.same s1
    obtain ⟨dx,fs,hp,ft⟩:=O1.ex
    refine zae fun R hR=>?_
    walk_at "rd"
    refine zar hp T.cl_Tree T.na_Tree_nodes ft.no ?_
    walk_at "rd"
    refine ⟨_,DGet.k (k:=Sum.inr x) O1.hn,?_⟩
    rw [zix]
    cases hx:fndN D.ns x with
    | some v =>
      exact rs_of (kx _ (zmu c1 (by rw [hx]; simp)) H1 s1) T.xc_Taken
    | none =>
    refine hR _ _ ?_
    clear hR
    refine zae fun R hR=>?_
    walk_at "rd"
    refine zar hp T.cl_Tree T.na_Tree_nodes ft.no ?_
    walk_at "rd"
    refine ⟨_,DGet.k (k:=Sum.inr u) O1.hn,?_⟩
    rw [zix]
    cases hu:fndN D.ns u with
    | none =>
      exact rs_of (kx _ (zsi c1 hx hu) H1 s1) T.xc_NoClass
    | some un =>
    refine hR _ _ ?_
    clear hR
    obtain ⟨uin,une⟩:=zcc hu
    obtain ⟨ys,U,yl⟩:=W.up un uin
    rw [une] at U
    refine zae fun R hR=>?_
    walk_at "rd"
    refine zav hp (ft.mis _ (by decide +kernel) (by decide +kernel) (by decide +kernel) (by decide +kernel) (by decide +kernel) (by decide +kernel)) ⟨D,u,kd,un,ys,rfl,O1,hu,U,by omega,fun H2 s2 bad=>?_,fun H2 s2 good=>hR _ _ ?_⟩
    · exact kx _ (zmv c1 hx hu fun q=>bad ⟨q.1,q.2.1,q.2.2 ys U⟩) H2 (s1.trans s2)
    clear hR
    have gd:kdOk kd/\un.ch≠none/\∀ ys,Up D.ns u ys->ys.length<=5:=⟨good.1,good.2.1,fun zs z=>by rw [<- U.det z]; exact good.2.2⟩
    refine zae fun R hR=>?_
    walk_at "rd"
    refine ⟨s,rfl,fun c3=>hR _ _ ?_,fun c3=>kx _ (zmw c1 hx hu gd c3) H2 (s1.trans s2)⟩
    clear hR
    have s12:=s1.trans s2
    have O2:=O.same s12
    clear hp ft dx fs O1 s1 s2
    refine zae fun R hR=>?_
    walk_at "rd"
    have post:¬ (kd=Str.ofString "leaf" /\ ∃ r:Int,rm = .int r/\r<0)->R [some (.ref D.p),some (.str x),some (.str u),some (.str kd),some (.int s),some rm] H2:=fun c4=>hR _ _ (by
      clear hR
      have k:=k (zpl c1 hx hu gd c3 c4)
      cases hc:un.ch with
      | none=>exact absurd hc gd.2.1
      | some c =>
      obtain ⟨dx,fs,hp,ft⟩:=O2.ex
      have N2:=O2.nd un uin
      obtain ⟨dn,fn,hnp,hft⟩:=N2.ex
      rw [hc] at hft
      have CS:=N2.ch c hc
      have cok:=W.cok un uin c hc
      have nx:shOf c.2.nm x=none:=by
        rw [Sw.sh_none,W.kid un uin c hc]
        intro z
        unfold kids at z
        obtain ⟨y,hy,e⟩:=List.mem_map.mp z
        exact fnd_none.mp hx (List.mem_map.mpr ⟨y,(List.mem_filter.mp hy).1,e⟩)
      have csz:=F.2 un uin c hc
      have fl:=F.1
      have kl:=W.kid_len uin hc
      obtain ⟨a,cs⟩:=c
      refine zae fun R hR=>?_
      have aft:∀ H3,Own a H2 H3->ChS c_Starts c_Rounds c_Members H3 a D.most (cs.put x s)->R [some (.ref D.p),some (.str x),some (.str u),some (.str kd),some (.int s),some rm] H3:=fun H3 ow C3=>hR _ _ (by
        clear hR
        have O3:=O2.chooser W.nn uin hc ow C3
        obtain ⟨d3,f3,hp3,ft3⟩:=O3.ex
        walk_at "rd"
        refine zar hp3 T.cl_Tree T.na_Tree_most ft3.mo ?_
        walk_at "rd"
        have b3:∀ {b o},H b=some o->∃ o',H3 b=some o':=fun {b o} e=>by
          by_cases q:b∈five a
          · exact (C3.at q).imp fun _ z=>z.1
          · exact ⟨o,ow.deed _ _ q (s12 _ _ e)⟩
        have n3:∀ {b},H3 b=none->H b=none:=fun {b} e=>by
          cases z:H b with
          | none=>rfl
          | some o=>obtain ⟨o',z'⟩:=b3 z; rw [e] at z'; cases z'
        have hx3:fndN (setN D.ns { un with ch:=some (a,cs.put x s) }) x=none:=by
          rw [zku]
          split
          · rw [hx]; rfl
          · exact hx
        have fin:∀ (cho:Option (At5×CSt)) (H4:Hp),Same H3 H4->(∀ c,cho=some c->ChS c_Starts c_Rounds c_Members H4 c.1 D.most c.2/\∀ b∈five c.1,H3 b=none)->(kd=Str.ofString "leaf" -> cho=none)->(Inner kd->∃ a,cho=some (a,CSt.new (kdB kd)))->∀ y dy,H4 y=none->H4 dy=none ->
            spNI c_Node [V.ref y,V.str u,chV cho,rm] (upd (upd H4 dy (.own y)) y (.ins c_Node dy [])) (fun v H2=>v=V.non/\rFld K (Str.ofString "nodes") (V.ref D.p) H2 fun x3 H2=>∃ a,x3=V.ref a/\∃ x4,DPut H2 a (V.str x) (V.ref y) x4/\Q V.non x4) (fun v d H'=>E v d H'):=fun cho H4 s4 hch klf kin y dy hy hdy=>by
          refine ⟨y,dy,.str u,chV cho,rm,rfl,zac,fun ql fs H5 bt hq h1 h2 h3=>⟨rfl,?_⟩⟩
          obtain ⟨s5,N5,fd5,q4⟩:=NdOk.new (C:=(⟨c_Node,c_Starts,c_Rounds,c_Members,c_Bucket,c_Tree⟩:Cl)) (m:=D.most) (nm:=x) (ab:=some u) hy hdy bt hq h1 h2 h3 fun c e=>(hch c e).1
          have O5:=O3.same (s4.trans s5)
          obtain ⟨d5,f5,hp5,ft5⟩:=O5.ex
          have no4:∀ {b},H4 b=none->H3 b=none:=fun {b} e=>by
            cases z:H3 b with
            | none=>rfl
            | some o=>rw [s4 _ _ z] at e; cases e
          have fr:∀ b∈ND.foot ⟨x,y,ql,some u,cho,rm,none,[],[]⟩,H3 b=none:=fun b hb=>by
            unfold ND.foot at hb
            rcases List.mem_cons.mp hb with z | hb
            · rw [z]; exact no4 hy
            rcases List.mem_cons.mp hb with z | hb
            · rw [z]; exact no4 q4
            rcases List.mem_append.mp hb with z | z
            · cases cho with
              | none=>cases z
              | some c=>exact (hch c rfl).2 b z
            · cases z
          refine zar hp5 T.cl_Tree T.na_Tree_nodes ft5.no ?_
          refine ⟨_,rfl,_,DPut.k (k:=Sum.inr x) O5.hn (zkv (by rw [zsg]; unfold setN; rw [List.length_map]; omega)),?_⟩
          have e5:=zwa (n:=⟨x,y,ql,some u,cho,rm,none,[],[]⟩) hx3
          rw [e5]
          refine k un (a,cs) ⟨x,y,ql,some u,cho,rm,none,[],[]⟩ _ hu hc rfl rfl rfl rfl rfl rfl klf kin (fun b hb=>n3 (fr b hb)) (O3.snoc (s4.trans s5) N5 fd5 fr) fun b o nb e=>?_
          rw [zai (fun z=>nb (by rw [z]; exact List.mem_cons_of_mem _ (List.mem_cons_self ..)))]
          refine s5 _ _ (s4 _ _ (ow.deed _ _ (fun z=>nb (TD.mem_node uin ?_)) (s12 _ _ e)))
          unfold ND.foot
          rw [hc]
          exact List.mem_cons_of_mem _ (List.mem_cons_of_mem _ (List.mem_append.mpr (.inl z)))
        refine ⟨kd,D.most,rfl,W.m1.1,fun ik a' H4 s4 na C4 y dy hy hdy _=>fin (some (a',CSt.new (kdB kd))) H4 s4 (fun c e=>?_) (fun e=>?_) (fun _=>⟨a',rfl⟩) y dy hy hdy,fun nk y dy hy hdy _=>fin none H3 (Same.refl _) (fun c e=>by cases e) (fun _=>rfl) (fun z=>absurd z nk) y dy hy hdy⟩
        · cases e; exact ⟨C4,na⟩
        · subst e
          exact absurd ik (by decide +kernel))
      clear hR
      walk_at "rd"
      cases cs with
      | st nm tg gs ck ch N =>
        refine .inl ?_
        walk_at "rd"
        refine zar hp T.cl_Tree T.na_Tree_nodes ft.no ?_
        walk_at "rd"
        refine ⟨_,nd_at O2 hu,?_⟩
        refine zar hnp T.cl_Node T.na_Node_chooser hft.ch ?_
        have S:Sx c_Starts c_Members H2 a D.most nm tg gs ck ch N:=CS
        obtain ⟨dx',fs',pr,hp',ft',hr'⟩:=S.ex
        refine zav hp' (ft'.no _ (by decide +kernel) (by decide +kernel) (by decide +kernel) (by decide +kernel) (by decide +kernel) (by decide +kernel)) ⟨a,D.most,nm,tg,gs,ck,ch,N,x,s,rfl,S,?_,fun z=>absurd nx z,fun _ z=>absurd c3 z,fun _ _ H3 ow S'=>aft H3 ow S'⟩
        have:N<=800:=csz
        omega
      | rd nm q rs tu ch =>
        refine .inr ?_
        walk_at "rd"
        refine zar hp T.cl_Tree T.na_Tree_nodes ft.no ?_
        walk_at "rd"
        refine ⟨_,nd_at O2 hu,?_⟩
        refine zar hnp T.cl_Node T.na_Node_chooser hft.ch ?_
        have S:Rx c_Rounds c_Members H2 a D.most nm q rs tu ch:=CS
        refine S.meth (by decide +kernel) ⟨a,D.most,nm,q,rs,tu,ch,x,s,rfl,S,cok.2,?_,fun z=>absurd nx z,fun _ z=>absurd c3 z,fun _ _ H3 ow S'=>aft H3 ow S'⟩
        have:nm.length<=D.ns.length:=kl
        omega)
    clear hR
    refine ite2 (fun c4=>ite2 (fun c5=>post fun q=>?_) fun c5=>?_) fun c4=>post fun q=>c4 q.1
    · obtain ⟨r,e,_⟩:=q.2
      rw [c5] at e; cases e
    · obtain ⟨r,e⟩:=hrm.resolve_left c5
      refine ⟨r,e,ite2 (fun c6=>rs_of (kx _ (zqi c1 hx hu gd c3 ⟨c4,r,e,c6⟩) H2 s12) T.xc_NoLength) fun c6=>post fun q=>?_⟩
      obtain ⟨r',e',h'⟩:=q.2
      rw [e] at e'; cases e'
      exact c6 h'
def spTW (cC:Addr) (C:Cl):Sp:=fun vs H Q E=>∃ (D:TD) (x:Str),vs = [.ref D.p,.str x]/\TrOk C H D/\D.Wf/\(x=road\/fndN D.ns x=none->Rs cC H E)/\(x≠road->∀ ys,Up D.ns x ys->∀ l H',Same H H'->H l=none->H' l=some (.lst (ys.reverse.tail.map V.str))->Q (.ref l) H')
theorem zql (T:Txt K mg c_WheelError c_NoName c_Taken c_NoClass c_NoPlace c_NoShare c_NoCurb c_NoLength c_TooEarly c_Bucket c_Members c_Chooser c_Starts c_Rounds c_Node c_Tree):MethD P w K mg base (CXX P w) 2 c_Tree "way" ["self", "name"] [[]] (spTW c_NoClass (⟨c_Node,c_Starts,c_Rounds,c_Members,c_Bucket,c_Tree⟩:Cl)):=by
 have M_Tree_check_class:=zbj (P:=P) (w:=w) (base:=base) T
 have M_Tree_from_road:=zft (P:=P) (w:=w) (base:=base) T
 refine T.me_Tree_way.okX (k:=1) zoe (fun vs H Q E h=>?_) (fun f cdv A outer s H vs Q E hr h=>?_)
 ·obtain ⟨D,x,rfl,_⟩:=h
  rfl
 ·obtain ⟨D,x,rfl,O,W,kx,k⟩:=h
  refine ⟨_,(zad (zbg (zap (dvs:=[]) M_Tree_check_class (by simp) T.cl_Tree (hr.mono (by decide)) passF (pv 0) (zaa (pv 1) zag))) (zaf (zax (zig (zih K rfl) (zap (dvs:=[]) M_Tree_from_road (by simp) T.cl_Tree (hr.mono (by decide)) passF (pv 0) (zaa (pv 1) zag)) (zis zah) zno)))),?_⟩
  show tSeq _ _ _ [some (.ref D.p),some (.str x)] H
  obtain ⟨dx,fs,hp,ft⟩:=O.ex
  refine zae fun R hR=>?_
  walk_at "rd"
  refine zav hp (ft.mis _ (by decide +kernel) (by decide +kernel) (by decide +kernel) (by decide +kernel) (by decide +kernel) (by decide +kernel)) ⟨D,x,rfl,O,fun c1 c2=>hR _ _ ?_,kx⟩
  cases hx:fndN D.ns x with
  | none=>exact absurd hx c2
  | some n =>
  obtain ⟨nin,ne⟩:=zcc hx
  obtain ⟨ys,U,yl⟩:=W.up n nin
  rw [ne] at U
  walk_at "rd"
  refine zav hp (ft.mis _ (by decide +kernel) (by decide +kernel) (by decide +kernel) (by decide +kernel) (by decide +kernel) (by decide +kernel)) ⟨D,x,ys,rfl,O,U,by omega,fun l H1 s1 hl e=>?_⟩
  refine zow (.of e) fun l2 hl2=>?_
  have yp:=U.pos
  have ec:cutV (ys.reverse.map V.str) (some 1) none=(ys.reverse.map V.str).drop 1:=zpn _ 1 (by rw [List.length_map,List.length_reverse]; omega)
  rw [ec]
  refine k c1 ys U l2 _ (s1.trans (zak hl2)) ?_ ?_
  ·cases z:H l2 with
   | none=>rfl
   | some o=>rw [s1 _ _ z] at hl2; cases hl2
  ·rw [zac,List.drop_one,List.map_tail]
def spTI (cL cP:Addr) (C:Cl):Sp:=fun vs H Q E=>∃ (x dx:Addr) (m:Int) (kd:Str),vs = [.ref x,.int m,.str kd]/\H x=some (.ins C.t dx [])/\(¬ (1<=m/\m<=1000000)->Rs cL H E)/\(1<=m/\m<=1000000->¬ Inner kd->Rs cP H E) /\
 (1<=m/\m<=1000000->Inner kd->∀ (pn pg:Addr) (n:ND) (a:At5) H',n = ⟨road,n.p,n.ql,none,some (a,CSt.new (kdB kd)),.non,none,[],[]⟩->But x H H'->(∀ b∈TD.foot ⟨x,pn,pg,m,0,0,0,[n],[],[]⟩,b=x\/H b=none)->TrOk C H' ⟨x,pn,pg,m,0,0,0,[n],[],[]⟩->Q .non H')
theorem zuw (T:Txt K mg c_WheelError c_NoName c_Taken c_NoClass c_NoPlace c_NoShare c_NoCurb c_NoLength c_TooEarly c_Bucket c_Members c_Chooser c_Starts c_Rounds c_Node c_Tree):MkD P w K mg base (CXX P w) 7 c_Tree ["self", "most", "kind"] [[],[V.str (Str.ofString "starts")]] (spTI c_NoLength c_NoPlace (⟨c_Node,c_Starts,c_Rounds,c_Members,c_Bucket,c_Tree⟩:Cl)):=by
 have D_check_most:=zng (P:=P) (w:=w) (base:=base) T
 have D_chooser_of:=zia (P:=P) (w:=w) (base:=base) T
 have K_Node:=zuv (P:=P) (w:=w) (base:=base) T
 refine T.in_Tree.okX (k:=6) zmz (fun vs H Q E h=>?_) (fun f cdv A outer s H vs Q E hr h=>?_)
 ·obtain ⟨x,dx,m,kd,rfl,_⟩:=h
  rfl
 ·obtain ⟨x,dx,m,kd,rfl,hx,kl,kp,k⟩:=h
  obtain ⟨t_INNER_KINDS,h_INNER_KINDS,w_INNER_KINDS⟩:=T.mg_INNER_KINDS
  refine ⟨_,(zad (zbg (zba D_check_most (hr.mono (by decide)) rfl passF (zaa (pv 1) zag))) (zad (ps_if (zay (ziv K rfl) (pv 2) (zfi (v:=.ref t_INNER_KINDS) rfl h_INNER_KINDS rfl) rfl) (zaf (zcl K rfl rfl zem (zen T.ex_NoPlace T.kp_NoPlace rfl T.mg_NoPlace (zaa zaq zag)))) zaw) (zad (zcf (pv 0) (pv 1) rfl) (zad (zcf (pv 0) (zvt (ztl (zgd rfl T.mg_ROAD) (zfq (dvs:=[V.non]) K_Node (by simp) (hr.mono (by decide)) passF rfl T.mg_Node (zaa zew (zaa (zba D_chooser_of (hr.mono (by decide)) rfl passF (zaa (pv 2) (zaa (pv 1) zag))) zag))) zvs) rfl rfl (by intro z; cases z) (by decide)) rfl) (zad (zcf (pv 0) zah rfl) (zad (zcf (pv 0) zah rfl) (zad (zcf (pv 0) zah rfl) (zaf (zcf (pv 0) (zdy zag) rfl))))))))),?_⟩
  show tSeq _ _ _ [some (.ref x),some (.int m),some (.str kd)] H
  refine zae fun R hR=>?_
  walk_at "rd"
  refine ⟨m,rfl,fun c1=>hR _ _ ?_,kl⟩
  clear hR
  refine zae fun R hR=>?_
  walk_at "rd"
  refine ⟨_,_,rfl,.inr (w_INNER_KINDS H),rfl,rfl,_,rfl,?_⟩
  rw [zkx,if_pos rfl]
  by_cases c2:Inner kd
  case neg =>
   rw [if_pos (by simp [c2])]
   exact rs_of (kp c1 c2) T.xc_NoPlace
  rw [if_neg (by simp [c2])]
  refine hR _ _ ?_
  clear hR
  have k:=k c1 c2
  have l1:=zan (fs:=[]) (f := "most") (v:=.int m)
  simp only [List.length_nil] at l1
  refine zae fun R hR=>?_
  walk_at "rd"
  refine zcg hx T.cl_Tree T.na_Tree_most (by simp) (hR _ _ ?_)
  clear hR
  have h1:upd H x (.ins c_Tree dx (putF "most" (.int m) [])) x=some (.ins c_Tree dx (putF "most" (.int m) [])):=zac
  have b1:But x H (upd H x (.ins c_Tree dx (putF "most" (.int m) []))):=zhp
  have n1:∀ {b},upd H x (.ins c_Tree dx (putF "most" (.int m) [])) b=none->H b=none:=fun {b} e=>by
   by_cases z:b=x
   ·rw [z,zac] at e; cases e
   ·rw [zai z] at e; exact e
  show tSeq _ _ _ _ (upd H x (.ins c_Tree dx (putF "most" (.int m) [])))
  generalize upd H x (.ins c_Tree dx (putF "most" (.int m) []))=H1 at h1 b1 n1 ⊢
  refine zae fun R hR=>?_
  walk_at "rd"
  unfold tDisp
  intro pn hpn
  unfold zmq zmq
  walk_at "rd"
  have s2:=zak (o:=.dK []) hpn
  have h2:upd H1 pn (.dK []) pn=some (.dK []):=zac
  generalize upd H1 pn (.dK [])=H2 at s2 h2 ⊢
  refine ⟨kd,m,rfl,c1.1,fun _ a H3 s3 na C3 y dy hy hdy _=>?_,fun z=>absurd c2 z⟩
  refine ⟨y,dy,.non,.ref a.p,.non,rfl,zac,fun ql fs H4 bt hq h4 f4 q4=>⟨rfl,?_⟩⟩
  obtain ⟨s4,N4,fd4,q3⟩:=NdOk.new (C:=(⟨c_Node,c_Starts,c_Rounds,c_Members,c_Bucket,c_Tree⟩:Cl)) (m:=m) (nm:=road) (ab:=none) (ch:=some (a,CSt.new (kdB kd))) (rm:=.non) hy hdy bt hq h4 f4 q4 fun c e=>by cases e; exact C3
  refine ⟨s4 _ _ (s3 _ _ h2),[((Sum.inr road:Key),V.ref y)],rfl,by simp,?_⟩
  have fr2:∀ b∈ND.foot ⟨road,y,ql,none,some (a,CSt.new (kdB kd)),.non,none,[],[]⟩,H2 b=none:=fun b hb=>by
   have no3:∀ {b},H3 b=none->H2 b=none:=fun {b} e=>by
    cases z:H2 b with
    | none=>rfl
    | some o=>rw [s3 _ _ z] at e; cases e
   unfold ND.foot at hb
   rcases List.mem_cons.mp hb with z | hb
   ·rw [z]; exact no3 hy
   rcases List.mem_cons.mp hb with z | hb
   ·rw [z]; exact no3 q3
   rcases List.mem_append.mp hb with z | z
   ·exact na b z
   ·cases z
  have s14:Same H1 H4:=s2.trans (s3.trans s4)
  have no2:∀ {b},H2 b=none->H1 b=none:=fun {b} e=>by
   cases z:H1 b with
   | none=>rfl
   | some o=>rw [s2 _ _ z] at e; cases e
  have xpn:x≠pn:=zao h1 hpn
  have h5:upd H4 pn (.dK (zgk [] [((Sum.inr road:Key),V.ref y)])) pn=some (.dK (ndK [⟨road,y,ql,none,some (a,CSt.new (kdB kd)),.non,none,[],[]⟩])):=zac
  have x5:upd H4 pn (.dK (zgk [] [((Sum.inr road:Key),V.ref y)])) x=some (.ins c_Tree dx (putF "most" (.int m) [])):=by rw [zai xpn]; exact s14 _ _ h1
  have k5:∀ b o,b≠pn->H4 b=some o->upd H4 pn (.dK (zgk [] [((Sum.inr road:Key),V.ref y)])) b=some o:=fun b o q e=>by rw [zai q]; exact e
  have o5:∀ b,upd H4 pn (.dK (zgk [] [((Sum.inr road:Key),V.ref y)])) b=none->H4 b=none:=fun b e=>by
   by_cases z:b=pn
   ·rw [z,zac] at e; cases e
   ·rw [zai z] at e; exact e
  have pn4:=s4 _ _ (s3 _ _ h2)
  generalize upd H4 pn (.dK (zgk [] [((Sum.inr road:Key),V.ref y)]))=H5 at h5 x5 k5 o5 ⊢
  have l2:=zan (fs:=putF "most" (.int m) []) (f := "nodes") (v:=.ref pn)
  have l3:=zan (fs:=putF "nodes" (.ref pn) (putF "most" (.int m) [])) (f := "time") (v:=.int 0)
  have l4:=zan (fs:=putF "time" (.int 0) (putF "nodes" (.ref pn) (putF "most" (.int m) []))) (f := "free") (v:=.int 0)
  have l5:=zan (fs:=putF "free" (.int 0) (putF "time" (.int 0) (putF "nodes" (.ref pn) (putF "most" (.int m) [])))) (f := "counted") (v:=.int 0)
  refine zcg x5 T.cl_Tree T.na_Tree_nodes (by omega) (hR _ _ ?_)
  clear hR
  refine zae fun R hR=>?_
  walk_at "rd"
  refine zcg zac T.cl_Tree T.na_Tree_time (by omega) (hR _ _ ?_)
  clear hR
  rw [zeh]
  refine zae fun R hR=>?_
  walk_at "rd"
  refine zcg zac T.cl_Tree T.na_Tree_free (by omega) (hR _ _ ?_)
  clear hR
  rw [zeh]
  refine zae fun R hR=>?_
  walk_at "rd"
  refine zcg zac T.cl_Tree T.na_Tree_counted (by omega) (hR _ _ ?_)
  clear hR
  rw [zeh]
  walk_at "rd"
  intro pg hpg
  have xg:pg≠x:=fun z=>by rw [z,zac] at hpg; cases hpg
  have g5:H5 pg=none:=by rw [zai xg] at hpg; exact hpg
  have g4:=o5 _ g5
  have ng:pn≠pg:=zao pn4 g4
  refine zcg (by rw [zai (Ne.symm xg),zac]) T.cl_Tree T.na_Tree_gone (by omega) ?_
  have kp:∀ {b o},b≠x->b≠pg->H5 b=some o->upd (upd (upd H5 x (.ins c_Tree dx (putF "counted" (.int 0) (putF "free" (.int 0) (putF "time" (.int 0) (putF "nodes" (.ref pn) (putF "most" (.int m) []))))))) pg (.lst [])) x (.ins c_Tree dx (putF "gone" (.ref pg) (putF "counted" (.int 0) (putF "free" (.int 0) (putF "time" (.int 0) (putF "nodes" (.ref pn) (putF "most" (.int m) []))))))) b=some o:=fun {b o} q1 q2 e=>by rw [zai q1,zai q2,zai q1]; exact e
  have hg:upd (upd (upd H5 x (.ins c_Tree dx (putF "counted" (.int 0) (putF "free" (.int 0) (putF "time" (.int 0) (putF "nodes" (.ref pn) (putF "most" (.int m) []))))))) pg (.lst [])) x (.ins c_Tree dx (putF "gone" (.ref pg) (putF "counted" (.int 0) (putF "free" (.int 0) (putF "time" (.int 0) (putF "nodes" (.ref pn) (putF "most" (.int m) []))))))) pg=some (.lst []):=by rw [zai xg,zac]
  have hf:upd (upd (upd H5 x (.ins c_Tree dx (putF "counted" (.int 0) (putF "free" (.int 0) (putF "time" (.int 0) (putF "nodes" (.ref pn) (putF "most" (.int m) []))))))) pg (.lst [])) x (.ins c_Tree dx (putF "gone" (.ref pg) (putF "counted" (.int 0) (putF "free" (.int 0) (putF "time" (.int 0) (putF "nodes" (.ref pn) (putF "most" (.int m) []))))))) x=some (.ins c_Tree dx (putF "gone" (.ref pg) (putF "counted" (.int 0) (putF "free" (.int 0) (putF "time" (.int 0) (putF "nodes" (.ref pn) (putF "most" (.int m) []))))))):=zac
  generalize upd (upd (upd H5 x (.ins c_Tree dx (putF "counted" (.int 0) (putF "free" (.int 0) (putF "time" (.int 0) (putF "nodes" (.ref pn) (putF "most" (.int m) []))))))) pg (.lst [])) x (.ins c_Tree dx (putF "gone" (.ref pg) (putF "counted" (.int 0) (putF "free" (.int 0) (putF "time" (.int 0) (putF "nodes" (.ref pn) (putF "most" (.int m) [])))))))=Hf at kp hg hf ⊢
  have bx:∀ {b},H2 b=none->b≠x:=fun {b} e z=>by rw [z,s2 _ _ h1] at e; cases e
  have bn:∀ {b},H2 b=none->b≠pn:=fun {b} e z=>by rw [z,h2] at e; cases e
  have k4:∀ {b o},b≠x->b≠pn->H4 b=some o->Hf b=some o:=fun {b o} q1 q2 e=>kp q1 (zao e g4) (k5 b o q2 e)
  refine k pn pg ⟨road,y,ql,none,some (a,CSt.new (kdB kd)),.non,none,[],[]⟩ a Hf rfl (fun b o nb e=>?_) (fun b hb=>?_) ⟨⟨dx,_,hf,FTr.mk0 ..⟩,kp xpn.symm ng h5,fun z hz=>?_,hg,.nil,?_⟩
  ·have e1:=b1 b o nb e
   exact k4 nb (zao e1 hpn) (s14 _ _ e1)
  ·unfold TD.foot at hb
   rcases List.mem_cons.mp hb with z | hb
   ·exact .inl z
   rcases List.mem_cons.mp hb with z | hb
   ·rw [z]; exact .inr (n1 hpn)
   rcases List.mem_cons.mp hb with z | hb
   ·rw [z]
    refine .inr (n1 ?_)
    cases z:H1 pg with
    | none=>rfl
    | some o=>rw [s14 _ _ z] at g4; cases g4
   obtain ⟨w,hw,z⟩:=List.mem_flatMap.mp hb
   rw [List.mem_singleton.mp hw] at z
   exact .inr (n1 (no2 (fr2 b z)))
  ·rw [List.mem_singleton.mp hz]
   refine N4.keep fun b o hb e=>?_
   rcases hb with q | ⟨xs,q⟩
   ·exact k4 (bx (fr2 b q)) (bn (fr2 b q)) e
   ·exact k4 (fun w=>by rw [w,s14 _ _ h1] at q; cases q) (fun w=>by rw [w,pn4] at q; cases q) e
  ·show (x :: pn :: pg :: ([⟨road,y,ql,none,some (a,CSt.new (kdB kd)),.non,none,[],[]⟩]:List ND).flatMap ND.foot).Nodup
   rw [List.flatMap_cons,List.flatMap_nil,List.append_nil]
   simp only [List.nodup_cons,List.mem_cons,not_or]
   refine ⟨⟨xpn,Ne.symm xg,fun z=>bx (fr2 _ z) rfl⟩,⟨ng,fun z=>bn (fr2 _ z) rfl⟩,fun z=>?_,fd4⟩
   obtain ⟨o,ho,_⟩:=N4.at z
   rw [g4] at ho; cases ho
def zyi (C:Cl):Sp:=fun vs H Q _=>∃ (D:TD) (x y:Str) (n u:ND),vs = [.ref D.p,.str x]/\TrOk C H D/\fndN D.ns x=some n/\n.ab=some y/\fndN D.ns y=some u/\Q (chV u.ch) H
theorem zdx (T:Txt K mg c_WheelError c_NoName c_Taken c_NoClass c_NoPlace c_NoShare c_NoCurb c_NoLength c_TooEarly c_Bucket c_Members c_Chooser c_Starts c_Rounds c_Node c_Tree):MethD P w K mg base (CXX P w) 1 c_Tree "chooser_over" ["self", "name"] [[]] (zyi (⟨c_Node,c_Starts,c_Rounds,c_Members,c_Bucket,c_Tree⟩:Cl)):=by
 refine T.me_Tree_chooser_over.okN (k:=0) zgg (fun vs H Q E h=>?_) (fun f cdv A outer s H vs Q E hr h=>?_)
 ·obtain ⟨D,x,y,n,u,rfl,_⟩:=h
  rfl
 ·obtain ⟨D,x,y,n,u,rfl,O,hx,ha,hu,k⟩:=h
  refine ⟨_,(zaf (zax (zbe (zdk (hu_of hr) (zbe (pv 0) rfl) (zbe (zdk (hu_of hr) (zbe (pv 0) rfl) (pv 1) (fun _ _=>rfl)) rfl) (fun _ _=>rfl)) rfl))),?_⟩
  show tRet _ _ [some (.ref D.p),some (.str x)] H
  obtain ⟨dx,fs,hp,ft⟩:=O.ex
  obtain ⟨dn,fn,hnp,hft⟩:=(O.nd n (zcc hx).1).ex
  obtain ⟨du,fu,hup,huf⟩:=(O.nd u (zcc hu).1).ex
  walk_at "rd"
  refine zar hp T.cl_Tree T.na_Tree_nodes ft.no ?_
  walk_at "rd"
  refine zar hp T.cl_Tree T.na_Tree_nodes ft.no ?_
  walk_at "rd"
  refine ⟨_,nd_at O hx,?_⟩
  refine zar hnp T.cl_Node T.na_Node_above hft.ab ?_
  rw [ha]
  refine ⟨_,nd_at O hu,?_⟩
  exact zar hup T.cl_Node T.na_Node_chooser huf.ch k
theorem zpo {nm:Nm} (nd:(nm.map (·.1)).Nodup) {p:Str×Int} (hp:p∈nm):shOf nm p.1=some p.2:=by
 induction nm with
 | nil=>cases hp
 | cons y r ih =>
  rw [List.map_cons,List.nodup_cons] at nd
  unfold L2.shOf at ih ⊢
  rw [List.find?_cons]
  rcases List.mem_cons.mp hp with e | e
  ·subst e; simp
  ·have ne:decide (y.1=p.1)=false:=decide_eq_false fun z=>nd.1 (by rw [z]; exact List.mem_map.mpr ⟨p,e,rfl⟩)
   rw [ne]
   exact ih nd.2 e
theorem zsn:∀ {nm:Nm},(∀ p∈nm,1<=p.2/\p.2<=1000000)->(nm.length:Int)<=allS nm/\allS nm<=1000000*(nm.length:Int)
 | [],_=>⟨Int.le_refl _,Int.le_refl _⟩
 | p :: r,h=>by
  obtain ⟨i1,i2⟩:=zsn (nm:=r) fun q hq=>h q (List.mem_cons_of_mem _ hq)
  have:=h p (List.mem_cons_self ..)
  unfold allS at i1 i2 ⊢
  rw [List.map_cons,List.sum_cons,List.length_cons]
  omega
theorem zwn {nm:Nm} (h:Gnm nm) (l:nm.length<=900) {x:Str} {s:Int} (e:shOf nm x=some s):0<allS nm/\allS nm<1000000000000:=by
 obtain ⟨b1,b2⟩:=zsn (nm:=nm) fun p hp=>h.sh _ _ (zpo h.nd hp)
 have:0<nm.length:=by
  cases nm with
  | nil=>cases e
  | cons _ _=>exact Nat.succ_pos _
 omega
def spTR (cC cS:Addr) (C:Cl):Sp:=fun vs H Q E=>∃ (D:TD) (x:Str) (s:Int),vs = [.ref D.p,.str x,.int s]/\TrOk C H D/\D.Wf/\D.fit/\(x=road\/fndN D.ns x=none->Rs cC H E)/\(x≠road->fndN D.ns x≠none->¬ (1<=s/\s<=1000000)->Rs cS H E)/\(x≠road->1<=s/\s<=1000000->∀ n un c H',fndN D.ns x=some n->n.ab=some un.nm->un∈D.ns->un.ch=some c->shOf c.2.nm x≠none->TrOk C H' (D.resh un c x s)->Deed D.foot H H'->Q .non H')
theorem zjy (T:Txt K mg c_WheelError c_NoName c_Taken c_NoClass c_NoPlace c_NoShare c_NoCurb c_NoLength c_TooEarly c_Bucket c_Members c_Chooser c_Starts c_Rounds c_Node c_Tree):MethD P w K mg base (CXX P w) 7 c_Tree "reshare" ["self", "name", "share"] [[]] (spTR c_NoClass c_NoShare (⟨c_Node,c_Starts,c_Rounds,c_Members,c_Bucket,c_Tree⟩:Cl)):=by
 have M_Tree_check_class:=zbj (P:=P) (w:=w) (base:=base) T
 have M_Tree_chooser_over:=zdx (P:=P) (w:=w) (base:=base) T
 have M_Starts_reshare:=zid (P:=P) (w:=w) (base:=base) T
 have M_Rounds_reshare:=zie (P:=P) (w:=w) (base:=base) T
 refine T.me_Tree_reshare.okX (k:=6) zjd (fun vs H Q E h=>?_) (fun f cdv A outer s H vs Q E hr h=>?_)
 ·obtain ⟨D,x,s,rfl,_⟩:=h
  rfl
 ·obtain ⟨D,x,sh,rfl,O,W,F,kc,ks,k⟩:=h
  refine ⟨_,(zad (zbg (zap (dvs:=[]) M_Tree_check_class (by simp) T.cl_Tree (hr.mono (by decide)) passF (pv 0) (zaa (pv 1) zag))) (zaf (zbg (zph (zap (dvs:=[]) M_Starts_reshare (by simp) T.cl_Starts (hr.mono (by decide)) passF (zap (dvs:=[]) M_Tree_chooser_over (by simp) T.cl_Tree (hr.mono (by decide)) passF (pv 0) (zaa (pv 1) zag)) (zaa (pv 1) (zaa (pv 2) zag))) (zap (dvs:=[]) M_Rounds_reshare (by simp) T.cl_Rounds (hr.mono (by decide)) passF (zap (dvs:=[]) M_Tree_chooser_over (by simp) T.cl_Tree (hr.mono (by decide)) passF (pv 0) (zaa (pv 1) zag)) (zaa (pv 1) (zaa (pv 2) zag))))))),?_⟩
  show tSeq _ _ _ [some (.ref D.p),some (.str x),some (.int sh)] H
  obtain ⟨dx,fs,hp,ft⟩:=O.ex
  refine zae fun R hR=>?_
  walk_at "rd"
  refine zav hp (ft.mis _ (by decide +kernel) (by decide +kernel) (by decide +kernel) (by decide +kernel) (by decide +kernel) (by decide +kernel)) ⟨D,x,rfl,O,fun c1 c2=>hR _ _ ?_,kc⟩
  clear hR
  cases hx:fndN D.ns x with
  | none=>exact absurd hx c2
  | some n =>
  obtain ⟨u,c,ha,uin,hu,hc,shx⟩:=W.above c1 hx
  have CS:=(O.nd u uin).ch c hc
  have cok:=W.cok u uin c hc
  have kl:=W.kid_len uin hc
  have fl:=F.1
  have fz:=F.2 u uin c hc
  have ks:=ks c1 (by rw [hx]; simp)
  obtain ⟨a,cs⟩:=c
  have aft:1<=sh/\sh<=1000000->∀ H2,Own a H H2->ChS c_Starts c_Rounds c_Members H2 a D.most (cs.resh D.most x sh)->Q .non H2:=fun s01 H2 ow C2=>by
   have O2:=O.chooser W.nn uin hc ow C2
   refine k c1 s01 n u (a,cs) H2 hx ha uin hc shx O2 fun b o nb e=>ow.deed _ _ (fun z=>nb (TD.mem_node uin ?_)) e
   unfold ND.foot
   rw [hc]
   exact List.mem_cons_of_mem _ (List.mem_cons_of_mem _ (List.mem_append.mpr (.inl z)))
  walk_at "rd"
  cases cs with
  | st nm tg gs ck ch N' =>
   refine .inl ?_
   walk_at "rd"
   refine zav hp (ft.mis _ (by decide +kernel) (by decide +kernel) (by decide +kernel) (by decide +kernel) (by decide +kernel) (by decide +kernel)) ⟨D,x,u.nm,n,u,rfl,O,hx,ha,hu,?_⟩
   rw [hc]
   have S:Sx c_Starts c_Members H a D.most nm tg gs ck ch N':=CS
   have fz:N'<=800:=fz
   obtain ⟨dx',fs',pr,hp',ft',hr'⟩:=S.ex
   exact zav hp' (ft'.no _ (by decide +kernel) (by decide +kernel) (by decide +kernel) (by decide +kernel) (by decide +kernel) (by decide +kernel)) ⟨a,D.most,nm,tg,gs,ck,ch,N',x,sh,rfl,S,by omega,fun z=>absurd z shx,fun _ z=>ks z,fun _ s01 H2 ow S'=>aft s01 H2 ow S'⟩
  | rd nm q rs tu ch =>
   refine .inr ?_
   walk_at "rd"
   refine zav hp (ft.mis _ (by decide +kernel) (by decide +kernel) (by decide +kernel) (by decide +kernel) (by decide +kernel) (by decide +kernel)) ⟨D,x,u.nm,n,u,rfl,O,hx,ha,hu,?_⟩
   rw [hc]
   have S:Rx c_Rounds c_Members H a D.most nm q rs tu ch:=CS
   have kl:nm.length<=D.ns.length:=kl
   have rl:rs.length=nm.length:=by have:=congrArg List.length cok.2.ks; rwa [List.length_map,List.length_map] at this
   have rx:shOf rs x≠none:=by
    have shx:shOf nm x≠none:=shx
    rw [Sw.sh_mem] at shx ⊢
    rw [cok.2.ks]; exact shx
   cases er:shOf rs x with
   | none=>exact absurd er rx
   | some r =>
   refine S.meth (by decide +kernel) ⟨a,D.most,nm,q,rs,tu,ch,x,sh,rfl,S,by omega,by omega,W.m1.1,W.m1.2,fun z=>absurd z shx,fun _ z=>ks z,fun _ s01=>⟨r,er,fun H2 ow S'=>aft s01 H2 ow (?_:ChS _ _ _ _ _ _ _)⟩⟩
   show Rx c_Rounds c_Members H2 a D.most (putN nm x sh) q (putN rs x (if sh*D.most<(shOf rs x).getD 0 then sh*D.most else (shOf rs x).getD 0)) tu ch
   rw [er]
   exact S'
def spTUn (cC:Addr) (C:Cl):Sp:=fun vs H Q E=>∃ (D:TD) (x:Str),vs = [.ref D.p,.str x]/\TrOk C H D/\D.Wf/\(x=road\/fndN D.ns x=none->Rs cC H E)/\(x≠road->∀ n H',fndN D.ns x=some n->TrOk C H' (D.curb n none)->Deed D.foot H H'->Q .non H')
theorem zlh (T:Txt K mg c_WheelError c_NoName c_Taken c_NoClass c_NoPlace c_NoShare c_NoCurb c_NoLength c_TooEarly c_Bucket c_Members c_Chooser c_Starts c_Rounds c_Node c_Tree):MethD P w K mg base (CXX P w) 2 c_Tree "uncurb" ["self", "name"] [[]] (spTUn c_NoClass (⟨c_Node,c_Starts,c_Rounds,c_Members,c_Bucket,c_Tree⟩:Cl)):=by
 have M_Tree_check_class:=zbj (P:=P) (w:=w) (base:=base) T
 refine T.me_Tree_uncurb.okX (k:=1) zjs (fun vs H Q E h=>?_) (fun f cdv A outer s H vs Q E hr h=>?_)
 ·obtain ⟨D,x,rfl,_⟩:=h
  rfl
 ·obtain ⟨D,x,rfl,O,W,kc,k⟩:=h
  refine ⟨_,(zad (zbg (zap (dvs:=[]) M_Tree_check_class (by simp) T.cl_Tree (hr.mono (by decide)) passF (pv 0) (zaa (pv 1) zag))) (zaf (zcf (zdk (hu_of hr) (zbe (pv 0) rfl) (pv 1) (fun _ _=>rfl)) zew rfl))),?_⟩
  show tSeq _ _ _ [some (.ref D.p),some (.str x)] H
  obtain ⟨dx,fs,hp,ft⟩:=O.ex
  refine zae fun R hR=>?_
  walk_at "rd"
  refine zav hp (ft.mis _ (by decide +kernel) (by decide +kernel) (by decide +kernel) (by decide +kernel) (by decide +kernel) (by decide +kernel)) ⟨D,x,rfl,O,fun c1 c2=>hR _ _ ?_,kc⟩
  clear hR
  cases hx:fndN D.ns x with
  | none=>exact absurd hx c2
  | some n =>
  obtain ⟨nin,ne⟩:=zcc hx
  obtain ⟨dn,fn,hnp,hft⟩:=(O.nd n nin).ex
  walk_at "rd"
  refine zar hp T.cl_Tree T.na_Tree_nodes ft.no ?_
  walk_at "rd"
  refine ⟨_,nd_at O hx,?_⟩
  refine zcg hnp T.cl_Node T.na_Node_bucket (by have:=hft.len; omega) ?_
  refine k c1 n _ hx (O.curb W.nn nin (Same.refl _) hnp hft none fun b z=>by cases z) fun b o nb e=>?_
  have:b≠n.p:=fun z=>nb (TD.mem_node nin (z ▸ List.mem_cons_self ..))
  rw [zai this]; exact e
def spTCd (cC:Addr) (C:Cl):Sp:=fun vs H Q E=>∃ (D:TD) (x:Str),vs = [.ref D.p,.str x]/\TrOk C H D/\(x=road\/fndN D.ns x=none->Rs cC H E)/\(x≠road->∀ n,fndN D.ns x=some n->Q (.bl n.bk.isSome) H)
theorem zli (T:Txt K mg c_WheelError c_NoName c_Taken c_NoClass c_NoPlace c_NoShare c_NoCurb c_NoLength c_TooEarly c_Bucket c_Members c_Chooser c_Starts c_Rounds c_Node c_Tree):MethD P w K mg base (CXX P w) 2 c_Tree "curbed" ["self", "name"] [[]] (spTCd c_NoClass (⟨c_Node,c_Starts,c_Rounds,c_Members,c_Bucket,c_Tree⟩:Cl)):=by
 have M_Tree_check_class:=zbj (P:=P) (w:=w) (base:=base) T
 refine T.me_Tree_curbed.okX (k:=1) zjt (fun vs H Q E h=>?_) (fun f cdv A outer s H vs Q E hr h=>?_)
 ·obtain ⟨D,x,rfl,_⟩:=h
  rfl
 ·obtain ⟨D,x,rfl,O,kc,k⟩:=h
  refine ⟨_,(zad (zbg (zap (dvs:=[]) M_Tree_check_class (by simp) T.cl_Tree (hr.mono (by decide)) passF (pv 0) (zaa (pv 1) zag))) (zaf (zax (zei zgm (zbe (zdk (hu_of hr) (zbe (pv 0) rfl) (pv 1) (fun _ _=>rfl)) rfl) zew (zbc _))))),?_⟩
  show tSeq _ _ _ [some (.ref D.p),some (.str x)] H
  obtain ⟨dx,fs,hp,ft⟩:=O.ex
  refine zae fun R hR=>?_
  walk_at "rd"
  refine zav hp (ft.mis _ (by decide +kernel) (by decide +kernel) (by decide +kernel) (by decide +kernel) (by decide +kernel) (by decide +kernel)) ⟨D,x,rfl,O,fun c1 c2=>hR _ _ ?_,kc⟩
  clear hR
  cases hx:fndN D.ns x with
  | none=>exact absurd hx c2
  | some n =>
  obtain ⟨nin,ne⟩:=zcc hx
  obtain ⟨dn,fn,hnp,hft⟩:=(O.nd n nin).ex
  have k:=k c1 n hx
  walk_at "rd"
  refine zar hp T.cl_Tree T.na_Tree_nodes ft.no ?_
  walk_at "rd"
  refine ⟨_,nd_at O hx,?_⟩
  refine zar hnp T.cl_Node T.na_Node_bucket hft.bk ?_
  cases hb:n.bk with
  | none=>rw [hb] at k; walk_at "rd"; exact k
  | some b=>rw [hb] at k; walk_at "rd"; exact k
def spTPt (cC:Addr) (C:Cl):Sp:=fun vs H Q E=>∃ (D:TD) (x:Str),vs = [.ref D.p,.str x]/\TrOk C H D/\D.Wf/\D.fit/\(x=road\/fndN D.ns x=none->Rs cC H E)/\(x≠road->∀ n un c s,fndN D.ns x=some n->n.ab=some un.nm->un∈D.ns->un.ch=some c->shOf c.2.nm x=some s->∀ q,H q=none->Q (.ref q) (upd H q (.tup (fq ((s:Rat) / (allS c.2.nm:Rat))))))
theorem zof (T:Txt K mg c_WheelError c_NoName c_Taken c_NoClass c_NoPlace c_NoShare c_NoCurb c_NoLength c_TooEarly c_Bucket c_Members c_Chooser c_Starts c_Rounds c_Node c_Tree):MethD P w K mg base (CXX P w) 5 c_Tree "part" ["self", "name"] [[]] (spTPt c_NoClass (⟨c_Node,c_Starts,c_Rounds,c_Members,c_Bucket,c_Tree⟩:Cl)):=by
 have M_Tree_check_class:=zbj (P:=P) (w:=w) (base:=base) T
 have M_Tree_chooser_over:=zdx (P:=P) (w:=w) (base:=base) T
 have M_Starts_part:=zle (P:=P) (w:=w) (base:=base) T
 have M_Rounds_part:=zlf (P:=P) (w:=w) (base:=base) T
 refine T.me_Tree_part.okX (k:=4) znb (fun vs H Q E h=>?_) (fun f cdv A outer s H vs Q E hr h=>?_)
 ·obtain ⟨D,x,rfl,_⟩:=h
  rfl
 ·obtain ⟨D,x,rfl,O,W,F,kc,k⟩:=h
  refine ⟨_,(zad (zbg (zap (dvs:=[]) M_Tree_check_class (by simp) T.cl_Tree (hr.mono (by decide)) passF (pv 0) (zaa (pv 1) zag))) (zaf (zax (zph (zap (dvs:=[]) M_Starts_part (by simp) T.cl_Starts (hr.mono (by decide)) passF (zap (dvs:=[]) M_Tree_chooser_over (by simp) T.cl_Tree (hr.mono (by decide)) passF (pv 0) (zaa (pv 1) zag)) (zaa (pv 1) zag)) (zap (dvs:=[]) M_Rounds_part (by simp) T.cl_Rounds (hr.mono (by decide)) passF (zap (dvs:=[]) M_Tree_chooser_over (by simp) T.cl_Tree (hr.mono (by decide)) passF (pv 0) (zaa (pv 1) zag)) (zaa (pv 1) zag)))))),?_⟩
  show tSeq _ _ _ [some (.ref D.p),some (.str x)] H
  obtain ⟨dx,fs,hp,ft⟩:=O.ex
  refine zae fun R hR=>?_
  walk_at "rd"
  refine zav hp (ft.mis _ (by decide +kernel) (by decide +kernel) (by decide +kernel) (by decide +kernel) (by decide +kernel) (by decide +kernel)) ⟨D,x,rfl,O,fun c1 c2=>hR _ _ ?_,kc⟩
  clear hR
  cases hx:fndN D.ns x with
  | none=>exact absurd hx c2
  | some n =>
  obtain ⟨u,c,ha,uin,hu,hc,shx⟩:=W.above c1 hx
  have CS:=(O.nd u uin).ch c hc
  have cok:=W.cok u uin c hc
  have kl:=W.kid_len uin hc
  have fl:=F.1
  have al:∀ s,shOf c.2.nm x=some s->0<allS c.2.nm/\allS c.2.nm<1000000000000:=fun s e=>zwn cok.gnm (by omega) e
  have k:=fun s e=>k c1 n u c s hx ha uin hc e
  obtain ⟨a,cs⟩:=c
  walk_at "rd"
  cases cs with
  | st nm tg gs ck ch N' =>
   refine .inl ?_
   walk_at "rd"
   refine zav hp (ft.mis _ (by decide +kernel) (by decide +kernel) (by decide +kernel) (by decide +kernel) (by decide +kernel) (by decide +kernel)) ⟨D,x,u.nm,n,u,rfl,O,hx,ha,hu,?_⟩
   rw [hc]
   have S:Sx c_Starts c_Members H a D.most nm tg gs ck ch N':=CS
   obtain ⟨dx',fs',pr,hp',ft',hr'⟩:=S.ex
   exact zav hp' (ft'.no _ (by decide +kernel) (by decide +kernel) (by decide +kernel) (by decide +kernel) (by decide +kernel) (by decide +kernel)) ⟨a,D.most,nm,tg,gs,ck,ch,N',x,rfl,S,fun z=>absurd z shx,fun s e=>⟨(al s e).1,(al s e).2,k s e⟩⟩
  | rd nm q rs tu ch =>
   refine .inr ?_
   walk_at "rd"
   refine zav hp (ft.mis _ (by decide +kernel) (by decide +kernel) (by decide +kernel) (by decide +kernel) (by decide +kernel) (by decide +kernel)) ⟨D,x,u.nm,n,u,rfl,O,hx,ha,hu,?_⟩
   rw [hc]
   have S:Rx c_Rounds c_Members H a D.most nm q rs tu ch:=CS
   exact S.meth (by decide +kernel) ⟨a,D.most,nm,q,rs,tu,ch,x,rfl,S,fun z=>absurd z shx,fun s e=>⟨(al s e).1,(al s e).2,k s e⟩⟩
def spTCu (cC cN:Addr) (C:Cl):Sp:=fun vs H Q E=>∃ (D:TD) (x:Str) (d:Int) (pr:Addr) (r:Rat),vs = [.ref D.p,.str x,.int d,.ref pr]/\TrOk C H D/\D.Wf/\H pr=some (.tup (fq r))/\Sw.SzQ 5000 r/\(x=road\/fndN D.ns x=none->Rs cC H E)/\(x≠road->fndN D.ns x≠none->¬ (D.most<=d/\d<=1000000000000/\0<r)->Rs cN H E)/\(x≠road->D.most<=d/\d<=1000000000000/\0<r->∀ n b H',fndN D.ns x=some n->H b.1=none->TrOk C H' (D.curb n (some b))->Deed D.foot H H'->Q .non H')
theorem num_pos {r:Rat}:0<r↔0<r.num:=by
 rw [<- Sw.q_lt]
 show (0:Int) * _ < _ * ((1:Nat):Int)↔_
 omega
theorem zog (T:Txt K mg c_WheelError c_NoName c_Taken c_NoClass c_NoPlace c_NoShare c_NoCurb c_NoLength c_TooEarly c_Bucket c_Members c_Chooser c_Starts c_Rounds c_Node c_Tree):MethD P w K mg base (CXX P w) 5 c_Tree "curb" ["self", "name", "depth", "rate"] [[]] (spTCu c_NoClass c_NoCurb (⟨c_Node,c_Starts,c_Rounds,c_Members,c_Bucket,c_Tree⟩:Cl)):=by
 have M_Tree_check_class:=zbj (P:=P) (w:=w) (base:=base) T
 have K_Bucket:=zty (P:=P) (w:=w) (base:=base) T
 refine T.me_Tree_curb.okX (k:=4) zna (fun vs H Q E h=>?_) (fun f cdv A outer s H vs Q E hr h=>?_)
 ·obtain ⟨D,x,d,pr,r,rfl,_⟩:=h
  rfl
 ·obtain ⟨D,x,d,pr,r,rfl,O,W,hpr,sr,kc,kn,k⟩:=h
  refine ⟨_,(zad (zbg (zap (dvs:=[]) M_Tree_check_class (by simp) T.cl_Tree (hr.mono (by decide)) passF (pv 0) (zaa (pv 1) zag))) (zad (ps_if (zim (zkl op_le op_le (zbe (pv 0) rfl) (pv 2) (zgu rfl T.mg_GREATEST_DEPTH))) (zaf (zcl K rfl rfl zem (zen T.ex_NoCurb T.kp_NoCurb rfl T.mg_NoCurb (zaa zaq zag)))) zaw) (zad (ps_if (zay op_le (pe_ix (zhl K rfl) (pv 3) zah (fun _ _=>rfl)) zah (zbc _)) (zaf (zcl K rfl rfl zem (zen T.ex_NoCurb T.kp_NoCurb rfl T.mg_NoCurb (zaa zaq zag)))) zaw) (zaf (zcf (zdk (hu_of hr) (zbe (pv 0) rfl) (pv 1) (fun _ _=>rfl)) (zfq (dvs:=[]) K_Bucket (by simp) (hr.mono (by decide)) passF rfl T.mg_Bucket (zaa (pv 2) (zaa (pv 3) (zaa (zbe (pv 0) rfl) zag)))) rfl))))),?_⟩
  show tSeq _ _ _ [some (.ref D.p),some (.str x),some (.int d),some (.ref pr)] H
  obtain ⟨dx,fs,hp,ft⟩:=O.ex
  refine zae fun R hR=>?_
  walk_at "rd"
  refine zav hp (ft.mis _ (by decide +kernel) (by decide +kernel) (by decide +kernel) (by decide +kernel) (by decide +kernel) (by decide +kernel)) ⟨D,x,rfl,O,fun c1 c2=>hR _ _ ?_,kc⟩
  clear hR
  have kn:=kn c1 c2
  cases hx:fndN D.ns x with
  | none=>exact absurd hx c2
  | some n =>
  obtain ⟨nin,ne⟩:=zcc hx
  have N:=O.nd n nin
  obtain ⟨dn,fn,hnp,hft⟩:=N.ex
  refine zae fun R hR=>?_
  walk_at "rd"
  refine zar hp T.cl_Tree T.na_Tree_most ft.mo ?_
  walk_at "rd"
  have post:D.most<=d->d<=1000000000000->R [some (.ref D.p),some (.str x),some (.int d),some (.ref pr)] H:=fun d1 d2=>hR _ _ (by
   clear hR
   refine zae fun R hR=>?_
   walk_at "rd"
   refine zkf (.of hpr) rfl ?_
   walk_at "rd"
   refine ite2 (fun c3=>rs_of (kn fun z=>?_) T.xc_NoCurb) fun c3=>hR _ _ ?_
   ·have:=num_pos.mp z.2.2
    omega
   clear hR
   have r0:0<r:=num_pos.mpr (by omega)
   walk_at "rd"
   refine zar hp T.cl_Tree T.na_Tree_time ft.ti ?_
   intro y dy hy hdy nd
   have pb:pr≠y:=zao hpr hy
   have pd:pr≠dy:=zao hpr hdy
   refine ⟨y,dy,d,pr,r,D.tm,rfl,zac,by rw [zai pb,zai pd]; exact hpr,sr,fun _ H1 bt B=>⟨rfl,?_⟩,fun z=>absurd ⟨by have:=W.m1.1; omega,Rat.le_of_lt r0⟩ z⟩
   have s1:Same H H1:=fun b o e=>bt _ _ (zao e hy) (by rw [zai (zao e hy),zai (zao e hdy)]; exact e)
   have O1:=O.same s1
   obtain ⟨dx,fs,hp,ft⟩:=O1.ex
   obtain ⟨dn,fn,hnp,hft⟩:=(O1.nd n nin).ex
   refine zar hp T.cl_Tree T.na_Tree_nodes ft.no ?_
   refine ⟨_,rfl,_,nd_at O1 hx,?_⟩
   refine zcg hnp T.cl_Node T.na_Node_bucket (by have:=hft.len; omega) ?_
   refine k c1 ⟨d1,d2,r0⟩ n (y,⟨d,r,D.tm,(d:Rat)⟩) _ hx hy (O.curb W.nn nin s1 hnp hft (some (y,⟨d,r,D.tm,(d:Rat)⟩)) fun b z=>by cases z; exact ⟨B,hy⟩) fun b o nb e=>?_
   have:b≠n.p:=fun z=>nb (TD.mem_node nin (z ▸ List.mem_cons_self ..))
   rw [zai this]; exact s1 _ _ e)
  clear hR
  refine ite2 (fun c3=>ite2 (fun c4=>post c3 c4) fun c4=>rs_of (kn fun z=>c4 z.2.1) T.xc_NoCurb) fun c3=>rs_of (kn fun z=>c3 z.1) T.xc_NoCurb
def spTLk (cC:Addr) (C:Cl):Sp:=fun vs H _ E=>∃ (D:TD) (x:Str),vs = [.ref D.p,.str x]/\TrOk C H D/\(x=road\/fndN D.ns x=none)/\Rs cC H E
def spNo:Sp:=fun _ _ _ _=>False
theorem zlj (T:Txt K mg c_WheelError c_NoName c_Taken c_NoClass c_NoPlace c_NoShare c_NoCurb c_NoLength c_TooEarly c_Bucket c_Members c_Chooser c_Starts c_Rounds c_Node c_Tree):MethD P w K mg base (CXX P w) 1 c_Starts "lack" ["self", "name"] [[]] spNo:=by
 refine T.me_Starts_lack.okX (k:=0) zjo (fun vs H Q E h=>h.elim) (fun f cdv A outer s H vs Q E hr h=>h.elim)
theorem zlk (T:Txt K mg c_WheelError c_NoName c_Taken c_NoClass c_NoPlace c_NoShare c_NoCurb c_NoLength c_TooEarly c_Bucket c_Members c_Chooser c_Starts c_Rounds c_Node c_Tree):MethD P w K mg base (CXX P w) 1 c_Rounds "lack" ["self", "name"] [[]] spNo:=by
 refine T.me_Rounds_lack.okX (k:=0) zjr (fun vs H Q E h=>h.elim) (fun f cdv A outer s H vs Q E hr h=>h.elim)
theorem zoh (T:Txt K mg c_WheelError c_NoName c_Taken c_NoClass c_NoPlace c_NoShare c_NoCurb c_NoLength c_TooEarly c_Bucket c_Members c_Chooser c_Starts c_Rounds c_Node c_Tree):MethD P w K mg base (CXX P w) 2 c_Tree "lack" ["self", "name"] [[]] (spTLk c_NoClass (⟨c_Node,c_Starts,c_Rounds,c_Members,c_Bucket,c_Tree⟩:Cl)):=by
 have M_Tree_check_class:=zbj (P:=P) (w:=w) (base:=base) T
 have M_Tree_chooser_over:=zdx (P:=P) (w:=w) (base:=base) T
 have M_Starts_lack:=zlj (P:=P) (w:=w) (base:=base) T
 have M_Rounds_lack:=zlk (P:=P) (w:=w) (base:=base) T
 refine T.me_Tree_lack.okX (k:=1) znc (fun vs H Q E h=>?_) (fun f cdv A outer s H vs Q E hr h=>?_)
 ·obtain ⟨D,x,rfl,_⟩:=h
  rfl
 ·obtain ⟨D,x,rfl,O,c,kc⟩:=h
  refine ⟨_,(zad (zbg (zap (dvs:=[]) M_Tree_check_class (by simp) T.cl_Tree (hr.mono (by decide)) passF (pv 0) (zaa (pv 1) zag))) (zaf (zax (zph (zap (dvs:=[]) M_Starts_lack (by simp) T.cl_Starts (hr.mono (by decide)) passF (zap (dvs:=[]) M_Tree_chooser_over (by simp) T.cl_Tree (hr.mono (by decide)) passF (pv 0) (zaa (pv 1) zag)) (zaa (pv 1) zag)) (zap (dvs:=[]) M_Rounds_lack (by simp) T.cl_Rounds (hr.mono (by decide)) passF (zap (dvs:=[]) M_Tree_chooser_over (by simp) T.cl_Tree (hr.mono (by decide)) passF (pv 0) (zaa (pv 1) zag)) (zaa (pv 1) zag)))))),?_⟩
  show tSeq _ _ _ [some (.ref D.p),some (.str x)] H
  obtain ⟨dx,fs,hp,ft⟩:=O.ex
  refine zae fun R hR=>?_
  walk_at "rd"
  exact zav hp (ft.mis _ (by decide +kernel) (by decide +kernel) (by decide +kernel) (by decide +kernel) (by decide +kernel) (by decide +kernel)) ⟨D,x,rfl,O,fun c1 c2=>absurd c (not_or.mpr ⟨c1,c2⟩),fun _=>kc⟩
def Idle (D:TD):Prop:=∀ n∈D.ns,n.ps = []
def spFL (C:Cl):Sp:=fun vs H Q _=>∃ (D:TD),vs = [.ref D.p]/\TrOk C H D/\Idle D/\D.ns.length<=900/\∀ l H',Same H H'->H l=none->H' l=some (.lst [])->Q (.ref l) H'
theorem zfg (T:Txt K mg c_WheelError c_NoName c_Taken c_NoClass c_NoPlace c_NoShare c_NoCurb c_NoLength c_TooEarly c_Bucket c_Members c_Chooser c_Starts c_Rounds c_Node c_Tree):MethD P w K mg base (CXX P w) 1 c_Tree "full_leaves" ["self"] [[]] (spFL (⟨c_Node,c_Starts,c_Rounds,c_Members,c_Bucket,c_Tree⟩:Cl)):=by
 refine T.me_Tree_full_leaves.okN (k:=0) zgr (fun vs H Q E h=>?_) (fun f cdv A outer s H vs Q E hr h=>?_)
 ·obtain ⟨D,rfl,_⟩:=h
  rfl
 ·obtain ⟨D,rfl,O,I,nl,k⟩:=h
  refine ⟨_,(zaf (zax (zvw (pe_lc ["name", "node"] [] rfl (by with_unfolding_all rfl) (by decide +kernel) rfl (by decide +kernel) (by exact True.intro) (by with_unfolding_all rfl) True.intro (ztn (zbe (pv 0) rfl)) (fun _ _ _=>(zvn (n:=2) K rfl rfl (zom (zfn (i:=0) (show (["name", "node"]:List Str).Nodup from by decide +kernel) rfl (by first|left;rfl|right;rfl)) (zom (zfn (i:=1) (show (["name", "node"]:List Str).Nodup from by decide +kernel) rfl (by first|left;rfl|right;rfl)) zvc)))) (fun _ _ _=>(zot (zsb K rfl (zwc K rfl (pv 1) rfl)))) (fun _ _ _=>(pv 0)))))),?_⟩
  show tRet _ _ [some (.ref D.p)] H
  obtain ⟨dx,fs,hp,ft⟩:=O.ex
  walk_at "rd"
  unfold tThaw
  walk_at "rd"
  unfold zuq
  walk_at "rd"
  refine zar hp T.cl_Tree T.na_Tree_nodes ft.no ?_
  refine ⟨_,rfl,_,O.hn,fun o L hL=>?_⟩
  have nL:L≠D.pn:=fun z=>by rw [z,zac] at hL; cases hL
  have hL0:H L=none:=by rw [zai nL] at hL; exact hL
  have lk:(ndK D.ns).length=D.ns.length:=zsg _
  refine zqg (fun i τ H'=>(∃ v0 v1,τ = [v0,v1])/\Same (upd H D.pn (.frz o (.dK (ndK D.ns)))) H'/\H' L=some (.lst [])) ⟨⟨none,none,rfl⟩,zak hL,zac⟩ (fun i τ H' _ ⟨_,sm,_⟩=>sm _ _ zac) ?_ ?_
  ·rintro i kv τ H6 p hkv ⟨⟨v0,v1,rfl⟩,sm,hLl⟩ hp6
   obtain ⟨n,hw,rfl⟩:∃ n,D.ns[i]? = some n/\((Sum.inr n.nm:Key),V.ref n.p)=kv:=by
    unfold ndK at hkv
    rw [List.getElem?_map] at hkv
    cases e:D.ns[i]? with
    | none=>rw [e] at hkv; cases hkv
    | some p=>rw [e] at hkv; exact ⟨p,rfl,Option.some.inj hkv⟩
   have nin:=List.mem_of_getElem? hw
   have N:=O.nd n nin
   obtain ⟨dn,fn,hnp,hft⟩:=N.ex
   have sn:=zak (o:=.tup [kV (Sum.inr n.nm:Key),V.ref n.p]) hp6
   have sm:=sm.trans sn
   have hLl:=sn _ _ hLl
   refine ⟨p,_,rfl,.of zac,rfl,?_⟩
   generalize upd H6 p (.tup [kV (Sum.inr n.nm:Key),V.ref n.p])=H7 at sm hLl ⊢
   have a1:=(O.apart nin (b:=n.p) (List.mem_cons_self ..)).2.1
   have a2:=(O.apart nin (b:=n.ql) (List.mem_cons_of_mem _ (List.mem_cons_self ..))).2.1
   have h7:=sm _ _ (show upd H D.pn (.frz o (.dK (ndK D.ns))) n.p = _ by rw [zai a1]; exact hnp)
   have q7:=sm _ _ (show upd H D.pn (.frz o (.dK (ndK D.ns))) n.ql = _ by rw [zai a2]; exact N.qu.hl)
   rw [I n nin] at q7
   walk_at "rd"
   refine zar h7 T.cl_Node T.na_Node_queue hft.qu ⟨_,truL (.of q7),?_⟩
   exact ⟨sm,hLl⟩
  ·rintro τ H6 ⟨_,sm,hLl⟩
   refine ⟨D.pn,⟨_,O.hn⟩,o,_,sm _ _ zac,?_⟩
   refine k L _ (fun b u' e=>?_) hL0 (by rw [zai nL]; exact hLl)
   by_cases z:b=D.pn
   ·subst z
    rw [O.hn] at e; cases e
    exact zac
   ·rw [zai z]
    exact sm _ _ (by rw [zai z]; exact e)
def spRA (C:Cl):Sp:=fun vs H Q _=>∃ (D:TD) (at':Int),vs = [.ref D.p,.int at']/\TrOk C H D/\Idle D/\D.ns.length<=900/\∀ l H',Same H H'->H l=none->H' l=some (.dK [])->Q (.ref l) H'
theorem zjg (T:Txt K mg c_WheelError c_NoName c_Taken c_NoClass c_NoPlace c_NoShare c_NoCurb c_NoLength c_TooEarly c_Bucket c_Members c_Chooser c_Starts c_Rounds c_Node c_Tree):MethD P w K mg base (CXX P w) 2 c_Tree "ready_at" ["self", "at"] [[]] (spRA (⟨c_Node,c_Starts,c_Rounds,c_Members,c_Bucket,c_Tree⟩:Cl)):=by
 have M_Tree_full_leaves:=zfg (P:=P) (w:=w) (base:=base) T
 refine T.me_Tree_ready_at.okN (k:=1) sc_Tree_ready_at (fun vs H Q E h=>?_) (fun f cdv A outer s H vs Q E hr h=>?_)
 ·obtain ⟨D,t,rfl,_⟩:=h
  rfl
 ·obtain ⟨D,t,rfl,O,I,nl,k⟩:=h
  refine ⟨_,(zad (zbd (i:=2) sc_Tree_ready_at.nd rfl (by first|left;rfl|right;rfl) zgb) (zad (zon PassesOwn.never rfl (zkp K rfl (zfw (dvs:=[]) M_Tree_full_leaves (by simp) T.cl_Tree (hr.mono (by decide)) passN (pv 0))) (zfn (i:=3) sc_Tree_ready_at.nd rfl (by first|left;rfl|right;rfl)) (zaf zkk)) (zaf (zax (pv 2))))),?_⟩
  show tSeq _ _ _ [some (.ref D.p),some (.int t),none,none,none] H
  obtain ⟨dx,fs,hp,ft⟩:=O.ex
  refine zae fun R hR=>?_
  walk_at "rd"
  intro l hl
  refine hR _ _ ?_
  clear hR
  have s1:=zak (o:=.dK []) hl
  have O1:=O.same s1
  obtain ⟨dx,fs,hp,ft⟩:=O1.ex
  refine zae fun R hR=>?_
  walk_at "rd"
  refine zii fun Z hZ=>?_
  walk_at "rd"
  refine zav hp (ft.mis _ (by decide +kernel) (by decide +kernel) (by decide +kernel) (by decide +kernel) (by decide +kernel) (by decide +kernel)) ⟨D,rfl,O1,I,nl,fun l2 H2 s2 hl2 h2=>⟨l2,rfl,⟨_,.of h2⟩,hZ _ _ ?_⟩⟩
  clear hZ
  refine zoo (K:=K) (a:=l2) (xs:=[]) (fun i σ H'=>σ = [some (.ref D.p),some (.int t),some (.ref l),none,none]/\H'=H2) ⟨rfl,rfl⟩ (fun i σ H' _ h=>.of (h.2 ▸ h2)) ?_ ?_
  ·rintro i v σ H5 hv _
   cases hv
  ·rintro σ H5 ⟨rfl,rfl⟩
   refine hR _ _ ?_
   walk_at "rd"
   exact k l H5 (s1.trans s2) hl (s2 _ _ zac)
def spMG (cC:Addr) (C:Cl):Sp:=fun vs H Q E=>∃ (D:TD) (x:Str),vs = [.ref D.p,.str x]/\TrOk C H D/\Idle D/\D.ns.length<=900/\(x≠road->fndN D.ns x=none->Rs cC H E)/\(x=road\/fndN D.ns x≠none->∀ H',Same H H'->Q (.bl false) H')
theorem zll (T:Txt K mg c_WheelError c_NoName c_Taken c_NoClass c_NoPlace c_NoShare c_NoCurb c_NoLength c_TooEarly c_Bucket c_Members c_Chooser c_Starts c_Rounds c_Node c_Tree):MethD P w K mg base (CXX P w) 3 c_Tree "may_go" ["self", "name"] [[]] (spMG c_NoClass (⟨c_Node,c_Starts,c_Rounds,c_Members,c_Bucket,c_Tree⟩:Cl)):=by
 have M_Tree_check_class:=zbj (P:=P) (w:=w) (base:=base) T
 have M_Tree_ready_at:=zjg (P:=P) (w:=w) (base:=base) T
 refine T.me_Tree_may_go.okX (k:=2) zju (fun vs H Q E h=>?_) (fun f cdv A outer s H vs Q E hr h=>?_)
 ·obtain ⟨D,x,rfl,_⟩:=h
  rfl
 ·obtain ⟨D,x,rfl,O,I,nl,kc,k⟩:=h
  refine ⟨_,(zad (ps_if (zay op_ne (pv 1) (zgd rfl T.mg_ROAD) (zbc _)) (zaf (zbg (zap (dvs:=[]) M_Tree_check_class (by simp) T.cl_Tree (hr.mono (by decide)) passF (pv 0) (zaa (pv 1) zag)))) zaw) (zaf (zax (zuc (zpd (hu_of hr) (pv 1) (zap (dvs:=[]) M_Tree_ready_at (by simp) T.cl_Tree (hr.mono (by decide)) passF (pv 0) (zaa (zbe (pv 0) rfl) zag))))))),?_⟩
  show tSeq _ _ _ [some (.ref D.p),some (.str x)] H
  obtain ⟨dx,fs,hp,ft⟩:=O.ex
  refine zae fun R hR=>?_
  have post:x=road\/fndN D.ns x≠none->R [some (.ref D.p),some (.str x)] H:=fun c=>hR _ _ (by
   clear hR
   have k:=k c
   walk_at "rd"
   refine zav hp (ft.mis _ (by decide +kernel) (by decide +kernel) (by decide +kernel) (by decide +kernel) (by decide +kernel) (by decide +kernel)) ?_
   refine zar hp T.cl_Tree T.na_Tree_time ft.ti ⟨D,D.tm,rfl,O,I,nl,fun l H1 s1 hl h1=>⟨l,rfl,none,DGet.k (k:=Sum.inr x) h1,k H1 s1⟩⟩)
  clear hR
  walk_at "rd"
  refine ite2 (fun c1=>post (.inl c1)) fun c1=>?_
  walk_at "rd"
  exact zav hp (ft.mis _ (by decide +kernel) (by decide +kernel) (by decide +kernel) (by decide +kernel) (by decide +kernel) (by decide +kernel)) ⟨D,x,rfl,O,fun _ c2=>post (.inr c2),fun c=>kc c1 (c.resolve_left c1)⟩
def spNC (C:Cl):Sp:=fun vs H Q _=>∃ (D:TD),vs = [.ref D.p]/\TrOk C H D/\Idle D/\D.ns.length<=900/\∀ H',Same H H'->Q .non H'
theorem zhg (T:Txt K mg c_WheelError c_NoName c_Taken c_NoClass c_NoPlace c_NoShare c_NoCurb c_NoLength c_TooEarly c_Bucket c_Members c_Chooser c_Starts c_Rounds c_Node c_Tree):MethD P w K mg base (CXX P w) 2 c_Tree "next_choice" ["self"] [[]] (spNC (⟨c_Node,c_Starts,c_Rounds,c_Members,c_Bucket,c_Tree⟩:Cl)):=by
 have M_Tree_full_leaves:=zfg (P:=P) (w:=w) (base:=base) T
 refine T.me_Tree_next_choice.okN (k:=1) sc_Tree_next_choice (fun vs H Q E h=>?_) (fun f cdv A outer s H vs Q E hr h=>?_)
 ·obtain ⟨D,rfl,_⟩:=h
  rfl
 ·obtain ⟨D,rfl,O,I,nl,k⟩:=h
  refine ⟨_,(zad (zbd (i:=1) sc_Tree_next_choice.nd rfl (by first|left;rfl|right;rfl) (zck (zra rfl) rfl T.no_max boot_max (zaa (zbe (pv 0) rfl) (zaa (zbe (pv 0) rfl) zag)))) (zaf (zax (zwd K rfl rfl rfl T.no_min (zaa (pe_lc ["name"] [("at", 1),("self", 0)] rfl (by with_unfolding_all rfl) (by decide +kernel) rfl (by decide +kernel) (by exact ⟨rfl,⟨rfl,True.intro⟩⟩) (by with_unfolding_all rfl) ⟨⟨rfl,rfl,rfl⟩,⟨⟨rfl,rfl,rfl⟩,True.intro⟩⟩ (zkp K rfl (zfw (dvs:=[]) M_Tree_full_leaves (by simp) T.cl_Tree (hr.mono (by decide)) passN (pv 0))) (fun _ _ _=>(zfn (i:=0) (show (["name", "at", "self"]:List Str).Nodup from by decide +kernel) rfl (by first|left;rfl|right;rfl))) (fun _ _ _=>zos) (fun _ _ _=>zts)) zag) zew)))),?_⟩
  show tSeq _ _ _ [some (.ref D.p),none] H
  obtain ⟨dx,fs,hp,ft⟩:=O.ex
  refine zae fun R hR=>?_
  walk_at "rd"
  refine zar hp T.cl_Tree T.na_Tree_time ft.ti (zar hp T.cl_Tree T.na_Tree_free ft.fr ⟨_,rfl,_,rfl,hR _ _ ?_⟩)
  clear hR
  walk_at "rd"
  unfold tMinD
  walk_at "rd"
  refine zav hp (ft.mis _ (by decide +kernel) (by decide +kernel) (by decide +kernel) (by decide +kernel) (by decide +kernel) (by decide +kernel)) ⟨D,rfl,O,I,nl,fun l H1 s1 hl h1=>⟨l,rfl,⟨_,.of h1⟩,fun L hL=>?_⟩⟩
  have nL:l≠L:=zao h1 hL
  refine zrr (K:=K) (a:=l) (xs:=[]) (fun i τ H'=>H'=upd H1 L (.lst [])) rfl (fun i τ H' _ h=>.of (by rw [h,zai nL]; exact h1)) ?_ ?_
  ·rintro i x τ H' hx _
   cases hx
  ·rintro τ H' rfl
   exact ⟨L,rfl,[],.of zac,fun _=>k _ (s1.trans (zak hL)),fun m hm=>by cases hm⟩
def spUn (cE:Addr) (C:Cl):Sp:=fun vs H Q _=>∃ (D:TD) (t:Int),vs = [.ref D.p,.int t]/\TrOk C H D/\Idle D/\D.ns.length<=900/\D.tm<=t/\∀ H',TrOk C H' { D with tm:=t }->Deed D.foot H H'->Q .non H'
theorem znh (T:Txt K mg c_WheelError c_NoName c_Taken c_NoClass c_NoPlace c_NoShare c_NoCurb c_NoLength c_TooEarly c_Bucket c_Members c_Chooser c_Starts c_Rounds c_Node c_Tree):MethD P w K mg base (CXX P w) 3 c_Tree "until" ["self", "at"] [[]] (spUn c_TooEarly (⟨c_Node,c_Starts,c_Rounds,c_Members,c_Bucket,c_Tree⟩:Cl)):=by
 have M_Tree_next_choice:=zhg (P:=P) (w:=w) (base:=base) T
 refine T.me_Tree_until.okX (k:=2) sc_Tree_until (fun vs H Q E h=>?_) (fun f cdv A outer s H vs Q E hr h=>?_)
 ·obtain ⟨D,t,rfl,_⟩:=h
  rfl
 ·obtain ⟨D,t,rfl,O,I,nl,t0,k⟩:=h
  refine ⟨_,(zad (ps_if (zay op_lt (pv 1) (zbe (pv 0) rfl) (zbc _)) (zaf (zcl K rfl rfl zem (zen T.ex_TooEarly T.kp_TooEarly rfl T.mg_TooEarly (zaa zaq zag)))) zaw) (zad (zbd (i:=2) sc_Tree_until.nd rfl (by first|left;rfl|right;rfl) (zfw (dvs:=[]) M_Tree_next_choice (by simp) T.cl_Tree (hr.mono (by decide)) passF (pv 0))) (zad (zif PassesOwn.leaving (PW.pt (zil (zay zgm (pv 2) zew (zbc _)) (zik (zay op_lt (pv 2) (pv 1) (zbc _))))) (zad zkk (zaf (zbd (i:=2) sc_Tree_until.nd rfl (by first|left;rfl|right;rfl) (zfw (dvs:=[]) M_Tree_next_choice (by simp) T.cl_Tree (hr.mono (by decide)) passF (pv 0)))))) (zaf (zcf (pv 0) (pv 1) rfl))))),?_⟩
  show tSeq _ _ _ [some (.ref D.p),some (.int t),none] H
  obtain ⟨dx,fs,hp,ft⟩:=O.ex
  refine zae fun R hR=>?_
  walk_at "rd"
  refine zar hp T.cl_Tree T.na_Tree_time ft.ti ⟨_,rfl,ite2 (fun c=>absurd c (by omega)) fun _=>hR _ _ ?_⟩
  clear hR
  refine zae fun R hR=>?_
  walk_at "rd"
  refine zav hp (ft.mis _ (by decide +kernel) (by decide +kernel) (by decide +kernel) (by decide +kernel) (by decide +kernel) (by decide +kernel)) ⟨D,rfl,O,I,nl,fun H1 s1=>hR _ _ ?_⟩
  clear hR
  have O1:=O.same s1
  obtain ⟨dx,fs,hp,ft⟩:=O1.ex
  refine zae fun R hR=>?_
  refine zsc (fun m σ H'=>σ = [some (.ref D.p),some (.int t),some V.non]/\H'=H1) (m0:=0) ⟨rfl,rfl⟩ ?_
  rintro m σ H' ⟨rfl,rfl⟩
  walk_at "rd"
  refine ⟨false,fun _ q=>q,⟨fun z=>Bool.noConfusion z,fun _=>hR _ _ ?_⟩⟩
  walk_at "rd"
  refine zcg hp T.cl_Tree T.na_Tree_time (by have:=ft.len; omega) ?_
  have O2:=O1.field hp (ft.put_ti (tm':=t))
  refine k _ O2 fun b o nb e=>?_
  have b1:b≠D.p:=fun z=>nb (z ▸ List.mem_cons_self ..)
  rw [zai b1]
  exact s1 _ _ e
def Good (D:TD) (x:Str):Prop:=x≠road/\fndN D.ns x≠none
instance (D:TD) (x:Str):Decidable (Good D x):=by unfold Good; exact inferInstance
theorem zdt {D:TD} {x:Str} (h:x=road\/fndN D.ns x=none):¬ Good D x:=fun z=>h.elim z.1 z.2
def W1 (z:String):V:=.str (Str.ofString z)
def zua (C:Cl):Sp:=fun vs H Q _=>∃ (D:TD) (x:Str) (s:Int),vs = [.ref D.p,.str x,.int s]/\TrOk C H D/\D.Wf/\D.fit/\(¬ Good D x->∀ H',Same H H'->Q (W1 "class") H')/\(Good D x->¬ (1<=s/\s<=1000000)->∀ H',Same H H'->Q (W1 "share") H')/\(x≠road->1<=s/\s<=1000000->∀ n un c H',fndN D.ns x=some n->n.ab=some un.nm->un∈D.ns->un.ch=some c->shOf c.2.nm x≠none->TrOk C H' (D.resh un c x s)->Deed D.foot H H'->Q (W1 "done") H')
theorem zni (T:Txt K mg c_WheelError c_NoName c_Taken c_NoClass c_NoPlace c_NoShare c_NoCurb c_NoLength c_TooEarly c_Bucket c_Members c_Chooser c_Starts c_Rounds c_Node c_Tree):Def P w K mg base (CXX P w) 8 "_law_share" ["_law_tree", "_law_name", "_law_share_here"] (zua (⟨c_Node,c_Starts,c_Rounds,c_Members,c_Bucket,c_Tree⟩:Cl)):=by
 have M_Tree_reshare:=zjy (P:=P) (w:=w) (base:=base) T
 refine T.src__law_share.okN (k:=7) sc__law_share (fun vs H Q E h=>?_) (fun f cdv A outer s H vs Q E hr h=>?_)
 ·obtain ⟨D,x,s,rfl,_⟩:=h
  rfl
 ·obtain ⟨D,x,sh,rfl,O,W,F,kc,ks,k⟩:=h
  refine ⟨_,(zad (zoa rfl rfl K rfl rfl rfl (fun _ _=>(zaf (zbd (i:=3) sc__law_share.nd rfl (by first|left;rfl|right;rfl) (zap (dvs:=[]) M_Tree_reshare (by simp) T.cl_Tree (hr.mono (by decide)) passT (pv 0) (zaa (pv 1) (zaa (pv 2) zag)))))) (zks K rfl T.xc_NoClass rfl T.mg_NoClass (fun _=>(zaf (zax zaq))) (zms (i:=4) K rfl T.xc_NoShare rfl T.mg_NoShare sc__law_share.nd rfl rfl (fun _=>(zaf (zax (pe_ix (zpm K rfl) (zdy (zaa zaq (zaa zaq zag))) (pe_or (zck (zdz K rfl) rfl T.no_isinstance boot_isinstance (zaa (pv 4) (zaa (zfi (v:=.ref c_NoCurb) rfl T.mg_NoCurb rfl) zag))) (pe_or (zck (zdz K rfl) rfl T.no_isinstance boot_isinstance (zaa (pv 4) (zaa (zfi (v:=.ref c_NoClass) rfl T.mg_NoClass rfl) zag))) (zlr (zud (zck (zdz K rfl) rfl T.no_isinstance boot_isinstance (zaa (pv 4) (zaa (zfi (v:=.ref c_WheelError) rfl T.mg_WheelError rfl) zag))))))) (fun _ _=>rfl))))) zse))) (zad (ps_if (zay zgm (pv 3) zew (zbc _)) (zaf (zax zaq)) zaw) (zaf (zax zaq)))),?_⟩
  show tSeq _ _ _ [some (.ref D.p),some (.str x),some (.int sh),none,none] H
  refine zae fun R hR=>?_
  unfold tTryM hkMs
  walk_at "rd"
  obtain ⟨dx,fs,hp,ft⟩:=O.ex
  refine zav hp (ft.mis _ (by decide +kernel) (by decide +kernel) (by decide +kernel) (by decide +kernel) (by decide +kernel) (by decide +kernel)) ⟨D,x,sh,rfl,O,W,F,fun c e he=>?_,fun c1 c2 c3 e he=>?_,fun c1 c3 n un c H' h1 h2 h3 h4 h5 h6 h7=>?_⟩
  ·refine ⟨e,rfl,c_NoClass,zac,zhr T.sub_NoClass_NoClass ?_⟩
   unfold Hd.run
   walk_at "rd"
   exact kc (zdt c) _ (zak he)
  ·refine ⟨e,rfl,c_NoShare,zac,zob T.sub_NoShare_NoClass (zhr T.sub_NoShare_NoShare ?_)⟩
   unfold Hd.run
   walk_at "rd"
   intro p hp
   have he2:=zak (o:=.lst [V.str (Str.ofString "share"),V.str (Str.ofString "")]) hp e _ zac
   refine zho he2 (.inl rfl) T.xc_NoShare rfl T.kit_NoShare_NoCurb ⟨_,rfl,iteF ?_⟩
   refine zho he2 (.inl rfl) T.xc_NoShare rfl T.kit_NoShare_NoClass ⟨_,rfl,iteF ?_⟩
   refine zho he2 (.inl rfl) T.xc_NoShare rfl T.kit_NoShare_WheelError ⟨_,rfl,?_⟩
   exact zuu (.of zac) rfl (ks ⟨c1,c2⟩ c3 _ ((zak he).trans (zak hp)))
  ·refine hR _ _ ?_
   clear hR
   refine zae fun R hR=>?_
   walk_at "rd"
   refine hR _ _ ?_
   walk_at "rd"
   exact k c1 c3 n un c H' h1 h2 h3 h4 h5 h6 h7
def zwo (C:Cl):Sp:=fun vs H Q _=>∃ (D:TD) (x:Str) (d:Int) (pr:Addr) (r:Rat),vs = [.ref D.p,.str x,.int d,.ref pr]/\TrOk C H D/\D.Wf/\H pr=some (.tup (fq r))/\Sw.SzQ 5000 r/\(¬ Good D x->∀ H',Same H H'->Q (W1 "class") H')/\(Good D x->¬ (D.most<=d/\d<=1000000000000/\0<r)->∀ H',Same H H'->Q (W1 "curb") H')/\(x≠road->D.most<=d/\d<=1000000000000/\0<r->∀ n b H',fndN D.ns x=some n->H b.1=none->TrOk C H' (D.curb n (some b))->Deed D.foot H H'->Q (W1 "done") H')
theorem zoi (T:Txt K mg c_WheelError c_NoName c_Taken c_NoClass c_NoPlace c_NoShare c_NoCurb c_NoLength c_TooEarly c_Bucket c_Members c_Chooser c_Starts c_Rounds c_Node c_Tree):Def P w K mg base (CXX P w) 6 "_law_curb" ["_law_tree", "_law_name", "_law_depth", "_law_rate"] (zwo (⟨c_Node,c_Starts,c_Rounds,c_Members,c_Bucket,c_Tree⟩:Cl)):=by
 have M_Tree_curb:=zog (P:=P) (w:=w) (base:=base) T
 refine T.src__law_curb.okN (k:=5) sc__law_curb (fun vs H Q E h=>?_) (fun f cdv A outer s H vs Q E hr h=>?_)
 ·obtain ⟨D,x,d,pr,r,rfl,_⟩:=h
  rfl
 ·obtain ⟨D,x,d,pr,r,rfl,O,W,hpr,sr,kc,kn,k⟩:=h
  refine ⟨_,(zad (zoa rfl rfl K rfl rfl rfl (fun _ _=>(zaf (zbd (i:=4) sc__law_curb.nd rfl (by first|left;rfl|right;rfl) (zap (dvs:=[]) M_Tree_curb (by simp) T.cl_Tree (hr.mono (by decide)) passT (pv 0) (zaa (pv 1) (zaa (pv 2) (zaa (pv 3) zag))))))) (zks K rfl T.xc_NoClass rfl T.mg_NoClass (fun _=>(zaf (zax zaq))) (zms (i:=5) K rfl T.xc_NoCurb rfl T.mg_NoCurb sc__law_curb.nd rfl rfl (fun _=>(zaf (zax (pe_ix (zpm K rfl) (zdy (zaa zaq (zaa zaq zag))) (pe_or (zck (zdz K rfl) rfl T.no_isinstance boot_isinstance (zaa (pv 5) (zaa (zfi (v:=.ref c_NoShare) rfl T.mg_NoShare rfl) zag))) (pe_or (zck (zdz K rfl) rfl T.no_isinstance boot_isinstance (zaa (pv 5) (zaa (zfi (v:=.ref c_NoClass) rfl T.mg_NoClass rfl) zag))) (zlr (zud (zck (zdz K rfl) rfl T.no_isinstance boot_isinstance (zaa (pv 5) (zaa (zfi (v:=.ref c_WheelError) rfl T.mg_WheelError rfl) zag))))))) (fun _ _=>rfl))))) zse))) (zad (ps_if (zay zgm (pv 4) zew (zbc _)) (zaf (zax zaq)) zaw) (zaf (zax zaq)))),?_⟩
  show tSeq _ _ _ [some (.ref D.p),some (.str x),some (.int d),some (.ref pr),none,none] H
  refine zae fun R hR=>?_
  unfold tTryM hkMs
  walk_at "rd"
  obtain ⟨dx,fs,hp,ft⟩:=O.ex
  refine zav hp (ft.mis _ (by decide +kernel) (by decide +kernel) (by decide +kernel) (by decide +kernel) (by decide +kernel) (by decide +kernel)) ⟨D,x,d,pr,r,rfl,O,W,hpr,sr,fun c e he=>?_,fun c1 c2 c3 e he=>?_,fun c1 c3 n b H' h1 h0 h2 h3=>?_⟩
  ·refine ⟨e,rfl,c_NoClass,zac,zhr T.sub_NoClass_NoClass ?_⟩
   unfold Hd.run
   walk_at "rd"
   exact kc (zdt c) _ (zak he)
  ·refine ⟨e,rfl,c_NoCurb,zac,zob T.sub_NoCurb_NoClass (zhr T.sub_NoCurb_NoCurb ?_)⟩
   unfold Hd.run
   walk_at "rd"
   intro p hp
   have he2:=zak (o:=.lst [V.str (Str.ofString "curb"),V.str (Str.ofString "")]) hp e _ zac
   refine zho he2 (.inl rfl) T.xc_NoCurb rfl T.kit_NoCurb_NoShare ⟨_,rfl,iteF ?_⟩
   refine zho he2 (.inl rfl) T.xc_NoCurb rfl T.kit_NoCurb_NoClass ⟨_,rfl,iteF ?_⟩
   refine zho he2 (.inl rfl) T.xc_NoCurb rfl T.kit_NoCurb_WheelError ⟨_,rfl,?_⟩
   exact zuu (.of zac) rfl (kn ⟨c1,c2⟩ c3 _ ((zak he).trans (zak hp)))
  ·refine hR _ _ ?_
   clear hR
   refine zae fun R hR=>?_
   walk_at "rd"
   refine hR _ _ ?_
   walk_at "rd"
   exact k c1 c3 n b H' h1 h0 h2 h3
def spLUn (C:Cl):Sp:=fun vs H Q _=>∃ (D:TD) (x:Str),vs = [.ref D.p,.str x]/\TrOk C H D/\D.Wf/\(¬ Good D x->∀ H',Same H H'->Q (W1 "class") H')/\(x≠road->∀ n H',fndN D.ns x=some n->TrOk C H' (D.curb n none)->Deed D.foot H H'->Q (W1 "done") H')
theorem zlm (T:Txt K mg c_WheelError c_NoName c_Taken c_NoClass c_NoPlace c_NoShare c_NoCurb c_NoLength c_TooEarly c_Bucket c_Members c_Chooser c_Starts c_Rounds c_Node c_Tree):Def P w K mg base (CXX P w) 3 "_law_uncurb" ["_law_tree", "_law_name"] (spLUn (⟨c_Node,c_Starts,c_Rounds,c_Members,c_Bucket,c_Tree⟩:Cl)):=by
 have M_Tree_uncurb:=zlh (P:=P) (w:=w) (base:=base) T
 refine T.src__law_uncurb.okN (k:=2) sc__law_uncurb (fun vs H Q E h=>?_) (fun f cdv A outer s H vs Q E hr h=>?_)
 ·obtain ⟨D,x,rfl,_⟩:=h
  rfl
 ·obtain ⟨D,x,rfl,O,W,kc,k⟩:=h
  refine ⟨_,(zad (zum rfl rfl K rfl rfl rfl T.xc_NoClass rfl T.mg_NoClass (fun _ _=>(zaf (zbd (i:=2) sc__law_uncurb.nd rfl (by first|left;rfl|right;rfl) (zap (dvs:=[]) M_Tree_uncurb (by simp) T.cl_Tree (hr.mono (by decide)) passT (pv 0) (zaa (pv 1) zag))))) (fun _=>(zaf (zax zaq)))) (zad (ps_if (zay zgm (pv 2) zew (zbc _)) (zaf (zax zaq)) zaw) (zaf (zax zaq)))),?_⟩
  show tSeq _ _ _ [some (.ref D.p),some (.str x),none] H
  refine zae fun R hR=>?_
  (try unfold tTryM hkMs)
  walk_at "rd"
  obtain ⟨dx,fs,hp,ft⟩:=O.ex
  refine zav hp (ft.mis _ (by decide +kernel) (by decide +kernel) (by decide +kernel) (by decide +kernel) (by decide +kernel) (by decide +kernel)) ⟨D,x,rfl,O,W,fun c e he=>?_,fun c1 n H' h1 h2 h3=>?_⟩
  ·exact ⟨e,rfl,c_NoClass,zac,T.sub_NoClass_NoClass,kc (zdt c) _ (zak he)⟩
  ·refine hR _ _ ?_
   clear hR
   refine zae fun R hR=>?_
   walk_at "rd"
   refine hR _ _ ?_
   walk_at "rd"
   exact k c1 n H' h1 h2 h3
def zwp:Sp:=fun vs H Q _=>∃ (m:Int) (kd:Str),vs = [.int m,.str kd]/\∀ H',Same H H'->Q (W1 (if ¬ (1<=m/\m<=1000000) then "length" else if Inner kd then "made" else "place")) H'
theorem zoj (T:Txt K mg c_WheelError c_NoName c_Taken c_NoClass c_NoPlace c_NoShare c_NoCurb c_NoLength c_TooEarly c_Bucket c_Members c_Chooser c_Starts c_Rounds c_Node c_Tree):Def P w K mg base (CXX P w) 9 "_law_made" ["_law_most", "_law_kind"] zwp:=by
 have K_Tree:=zuw (P:=P) (w:=w) (base:=base) T
 refine T.src__law_made.okN (k:=8) zmx (fun vs H Q E h=>?_) (fun f cdv A outer s H vs Q E hr h=>?_)
 ·obtain ⟨m,kd,rfl,_⟩:=h
  rfl
 ·obtain ⟨m,kd,rfl,k⟩:=h
  refine ⟨_,(zad (zoa rfl rfl K rfl rfl rfl (fun _ _=>(zaf (zbg (zfq (dvs:=[]) K_Tree (by simp) (hr.mono (by decide)) passT rfl T.mg_Tree (zaa (pv 0) (zaa (pv 1) zag)))))) (zks K rfl T.xc_NoLength rfl T.mg_NoLength (fun _=>(zaf (zax zaq))) (zks K rfl T.xc_NoPlace rfl T.mg_NoPlace (fun _=>(zaf (zax zaq))) zse))) (zaf (zax zaq))),?_⟩
  show tSeq _ _ _ [some (.int m),some (.str kd)] H
  refine zae fun R hR=>?_
  (try unfold tTryM hkMs)
  walk_at "rd"
  intro y dy hy hdy nd
  have s1:Same H (upd (upd H dy (.own y)) y (.ins c_Tree dy [])):=fun b o e=>by rw [zai (zao e hy),zai (zao e hdy)]; exact e
  refine ⟨y,dy,m,kd,rfl,zac,fun c e he=>?_,fun c c2 e he=>?_,fun c c2 pn pg n a H' _ bt _ _=>⟨rfl,hR _ _ ?_⟩⟩
  ·refine ⟨e,rfl,c_NoLength,zac,zhr T.sub_NoLength_NoLength ?_⟩
   unfold Hd.run
   walk_at "rd"
   rw [if_pos c] at k
   exact k _ (s1.trans (zak he))
  ·refine ⟨e,rfl,c_NoPlace,zac,zob T.sub_NoPlace_NoLength (zhr T.sub_NoPlace_NoPlace ?_)⟩
   unfold Hd.run
   walk_at "rd"
   rw [if_neg (not_not_intro c),if_neg c2] at k
   exact k _ (s1.trans (zak he))
  ·walk_at "rd"
   have k:=k H' fun b o e=>bt _ _ (zao e hy) (s1 _ _ e)
   rwa [if_neg (not_not_intro c),if_pos c2] at k
inductive Ask
 | cls
 | bl (b:Bool)
 | fr (r:Rat)
def AskV (H:Hp) (v:V):Ask->Prop
 | .cls=>v=W1 "class"
 | .bl b=>v = .bl b
 | .fr r=>∃ p,v = .ref p/\H p=some (.tup (fq r))
def partA (D:TD) (x:Str):Ask:=if Good D x then (match fndN D.ns x with
 | none=>.cls
 | some n=>match n.ab with
  | none=>.cls
  | some y=>match fndN D.ns y with
   | none=>.cls
   | some u=>match u.ch with
    | none=>.cls
    | some c=>.fr (((shOf c.2.nm x).getD 0:Rat) / (allS c.2.nm:Rat))) else .cls
def spAsk (C:Cl):Sp:=fun vs H Q _=>∃ (D:TD) (x:Str) (i:Int),vs = [.ref D.p,.str x,.int i]/\TrOk C H D/\D.Wf/\D.fit/\Idle D/\(i = 0\/i = 3\/i = 4\/(¬ Good D x/\(i = 1\/i = 2))) /\
 (i = 0->∀ v H',Same H H'->AskV H' v (partA D x)->Q v H') /\
 (i = 1\/i = 2->∀ H',Same H H'->Q (W1 "class") H') /\
 (i = 3->∀ H',Same H H'->Q (if Good D x then .bl (((fndN D.ns x).bind (·.bk)).isSome) else W1 "class") H') /\
 (i = 4->∀ H',Same H H'->Q (if x=road\/fndN D.ns x≠none then .bl false else W1 "class") H')
theorem znj (T:Txt K mg c_WheelError c_NoName c_Taken c_NoClass c_NoPlace c_NoShare c_NoCurb c_NoLength c_TooEarly c_Bucket c_Members c_Chooser c_Starts c_Rounds c_Node c_Tree):Def P w K mg base (CXX P w) 6 "_law_asked" ["_law_tree", "_law_name", "_law_which"] (spAsk (⟨c_Node,c_Starts,c_Rounds,c_Members,c_Bucket,c_Tree⟩:Cl)):=by
 have M_Tree_part:=zof (P:=P) (w:=w) (base:=base) T
 have M_Tree_lack:=zoh (P:=P) (w:=w) (base:=base) T
 have M_Tree_way:=zql (P:=P) (w:=w) (base:=base) T
 have M_Tree_curbed:=zli (P:=P) (w:=w) (base:=base) T
 have M_Tree_may_go:=zll (P:=P) (w:=w) (base:=base) T
 refine T.src__law_asked.okN (k:=5) zla (fun vs H Q E h=>?_) (fun f cdv A outer s H vs Q E hr h=>?_)
 ·obtain ⟨D,x,i,rfl,_⟩:=h
  rfl
 ·obtain ⟨D,x,i,rfl,O,W,F,I,hi,k0,k12,k3,k4⟩:=h
  refine ⟨_,(zaf (zum rfl rfl K rfl rfl rfl T.xc_NoClass rfl T.mg_NoClass (fun _ _=>(zad (ps_if (zay op_eq (pv 2) zah (zbc _)) (zaf (zax (zap (dvs:=[]) M_Tree_part (by simp) T.cl_Tree (hr.mono (by decide)) passT (pv 0) (zaa (pv 1) zag)))) zaw) (zad (ps_if (zay op_eq (pv 2) zah (zbc _)) (zaf (zax (zap (dvs:=[]) M_Tree_lack (by simp) T.cl_Tree (hr.mono (by decide)) passT (pv 0) (zaa (pv 1) zag)))) zaw) (zad (ps_if (zay op_eq (pv 2) zah (zbc _)) (zaf (zax (zap (dvs:=[]) M_Tree_way (by simp) T.cl_Tree (hr.mono (by decide)) passT (pv 0) (zaa (pv 1) zag)))) zaw) (zad (ps_if (zay op_eq (pv 2) zah (zbc _)) (zaf (zax (zap (dvs:=[]) M_Tree_curbed (by simp) T.cl_Tree (hr.mono (by decide)) passT (pv 0) (zaa (pv 1) zag)))) zaw) (zaf (zax (zap (dvs:=[]) M_Tree_may_go (by simp) T.cl_Tree (hr.mono (by decide)) passT (pv 0) (zaa (pv 1) zag))))))))) (fun _=>(zaf (zax zaq))))),?_⟩
  show (_:TS) _ [some (.ref D.p),some (.str x),some (.int i)] H
  (try unfold tTryM hkMs)
  walk_at "rd"
  obtain ⟨dx,fs,hp,ft⟩:=O.ex
  have fl:=F.1
  refine zae fun R hR=>?_
  walk_at "rd"
  refine ite2 (fun c0=>?_) fun c0=>hR _ _ ?_
  ·have k:=k0 c0
   refine zav hp (ft.mis _ (by decide +kernel) (by decide +kernel) (by decide +kernel) (by decide +kernel) (by decide +kernel) (by decide +kernel)) ⟨D,x,rfl,O,W,F,fun c e he=>⟨e,rfl,c_NoClass,zac,T.sub_NoClass_NoClass,k _ _ (zak he) ?_⟩,fun c n un ch sh h1 h2 h3 h4 h5 q hq=>k _ _ (zak hq) ?_⟩
   ·unfold partA
    rw [if_neg (zdt c)]
    exact (rfl:_ = _)
   ·unfold partA
    rw [if_pos ⟨c,by rw [h1]; simp⟩,h1]
    show AskV _ _ (match n.ab with | none=>_ | some y=>_)
    rw [h2]
    show AskV _ _ (match fndN D.ns un.nm with | none=>_ | some u=>_)
    rw [zfs W.nn h3]
    show AskV _ _ (match un.ch with | none=>_ | some c=>_)
    rw [h4]
    show AskV _ _ (.fr (((shOf ch.2.nm x).getD 0:Rat) / _))
    rw [h5]
    exact ⟨q,rfl,zac⟩
  clear hR
  refine zae fun R hR=>?_
  walk_at "rd"
  refine ite2 (fun c1=>?_) fun c1=>hR _ _ ?_
  ·have ng:x=road\/fndN D.ns x=none:=by
    rcases hi with z | z | z | ⟨z,_⟩
    ·omega
    ·omega
    ·omega
    ·exact Classical.byContradiction fun y=>z (not_or.mp y)
   exact zav hp (ft.mis _ (by decide +kernel) (by decide +kernel) (by decide +kernel) (by decide +kernel) (by decide +kernel) (by decide +kernel)) ⟨D,x,rfl,O,ng,fun e he=>⟨e,rfl,c_NoClass,zac,T.sub_NoClass_NoClass,k12 (.inl c1) _ (zak he)⟩⟩
  clear hR
  refine zae fun R hR=>?_
  walk_at "rd"
  refine ite2 (fun c2=>?_) fun c2=>hR _ _ ?_
  ·have ng:x=road\/fndN D.ns x=none:=by
    rcases hi with z | z | z | ⟨z,_⟩
    ·omega
    ·omega
    ·omega
    ·exact Classical.byContradiction fun y=>z (not_or.mp y)
   refine zav hp (ft.mis _ (by decide +kernel) (by decide +kernel) (by decide +kernel) (by decide +kernel) (by decide +kernel) (by decide +kernel)) ⟨D,x,rfl,O,W,fun _ e he=>⟨e,rfl,c_NoClass,zac,T.sub_NoClass_NoClass,k12 (.inr c2) _ (zak he)⟩,fun c ys U=>?_⟩
   obtain ⟨n,hn⟩:=U.fnd
   rw [ng.resolve_left c] at hn; cases hn
  clear hR
  refine zae fun R hR=>?_
  walk_at "rd"
  refine ite2 (fun c3=>?_) fun c3=>hR _ _ ?_
  ·have k:=k3 c3
   refine zav hp (ft.mis _ (by decide +kernel) (by decide +kernel) (by decide +kernel) (by decide +kernel) (by decide +kernel) (by decide +kernel)) ⟨D,x,rfl,O,fun c e he=>⟨e,rfl,c_NoClass,zac,T.sub_NoClass_NoClass,?_⟩,fun c n h1=>?_⟩
   ·rw [if_neg (zdt c)] at k
    exact k _ (zak he)
   ·rw [if_pos ⟨c,by rw [h1]; simp⟩,h1] at k
    exact k _ (Same.refl _)
  clear hR
  have c4:i = 4:=by omega
  have k:=k4 c4
  walk_at "rd"
  refine zav hp (ft.mis _ (by decide +kernel) (by decide +kernel) (by decide +kernel) (by decide +kernel) (by decide +kernel) (by decide +kernel)) ⟨D,x,rfl,O,I,by omega,fun c c' e he=>⟨e,rfl,c_NoClass,zac,T.sub_NoClass_NoClass,?_⟩,fun c H' s'=>?_⟩
  ·rw [if_neg (fun z=>z.elim c fun y=>y c')] at k
   exact k _ (zak he)
  ·rw [if_pos c] at k
   exact k _ s'
def spLow:Sp:=fun vs H Q _=>∃ t b,vs = [.int t,.int b]/\0<t/\0<b/\Sw.Sz 5000 b/\∀ p,H p=none->Q (.ref p) (upd H p (.tup (fq ((t:Rat) / (b:Rat)))))
theorem zln (T:Txt K mg c_WheelError c_NoName c_Taken c_NoClass c_NoPlace c_NoShare c_NoCurb c_NoLength c_TooEarly c_Bucket c_Members c_Chooser c_Starts c_Rounds c_Node c_Tree):Def P w K mg base (CXX P w) 1 "_law_lowest" ["_law_top", "_law_bottom"] spLow:=by
 refine T.src__law_lowest.okN (k:=0) sc__law_lowest (fun vs H Q E h=>?_) (fun f cdv A outer s H vs Q E hr h=>?_)
 ·obtain ⟨t,b,rfl,_⟩:=h
  rfl
 ·obtain ⟨t,b,rfl,ht,hb,sb,k⟩:=h
  refine ⟨_,(zad (zbd (i:=2) sc__law_lowest.nd rfl (by first|left;rfl|right;rfl) (pv 0)) (zad (zbd (i:=3) sc__law_lowest.nd rfl (by first|left;rfl|right;rfl) (pv 1)) (zad (zif PassesOwn.never (zay op_ne (pv 3) zah (zbc _)) (zaf (zxd (i:=2) (j:=3) rfl sc__law_lowest.nd rfl rfl (by decide) rfl rfl (zaa (pv 3) (zaa (pe_op zcm (pv 2) (pv 3)) zag)) (by with_unfolding_all rfl)))) (zaf (zax (zgi (zaa (pe_op zfo (pv 0) (pv 2)) (zaa (pe_op zfo (pv 1) (pv 2)) zag)))))))),?_⟩
  show tSeq _ _ _ [some (.int t),some (.int b),none,none] H
  refine zae fun R hR=>?_
  walk_at "rd"
  refine hR _ _ ?_
  clear hR
  refine zae fun R hR=>?_
  walk_at "rd"
  refine hR _ _ ?_
  clear hR
  refine zae fun R hR=>?_
  refine zmh (fun σ H'=>H'=H/\∃ g s,σ = [some (.int t),some (.int b),some (.int g),some (.int s)]/\0<=g/\0<=s/\Sw.dv g s=Sw.dv t b)
   (fun σ _=>match σ with | [_,_,_,some (.int s)]=>s.toNat | _=>0) ⟨rfl,_,_,rfl,by omega,by omega,rfl⟩ ?_
  rintro σ H' ⟨rfl,g,s,rfl,hg,hs,e⟩
  refine ⟨!decide (V.int s=V.int 0),fun Q hQ=>⟨_,rfl,rfl,_,rfl,hQ⟩,fun hb=>?_,fun hb0=>?_⟩
  ·have hs0:s≠0:=by intro z; subst z; simp at hb
   have hsp:0<s:=by omega
   refine ⟨_,rfl,_,rfl,_,rfl,_,_,rfl,rfl,hsp,_,_,rfl,?_⟩
   refine ⟨⟨rfl,s,g % s,rfl,hs,Int.emod_nonneg g hs0,by rw [Sw.dv_step]; exact e⟩,?_⟩
   show (g % s).toNat<s.toNat
   have:=Int.emod_lt_of_pos g hsp
   have:=Int.emod_nonneg g hs0
   omega
  ·have hs0:s = 0:=by
    have:V.int s=V.int 0:=by simpa using hb0
    exact V.int.inj this
   subst hs0
   rw [Sw.dv_zero _ hg] at e
   subst e
   refine hR _ _ ?_
   have hg:0<Sw.dv t b:=Sw.dv_pos (by omega)
   have hz:Sw.Sz 5000 (Sw.dv t b):=sb.dvd (Sw.dv_r t b) (by omega)
   walk_at "rd"
   refine ⟨⟨hg,hz⟩,⟨hg,hz⟩,fun p hp=>?_⟩
   rw [zxw (by omega:0<b)]
   exact k p hp
structure WE where
 nm:Str
 q:Addr
 ab:Str
 sh:Int
 cu:Bool
def weK (ws:List WE):List (Key×V):=ws.map fun w=>((Sum.inr w.nm:Key),V.ref w.q)
def weL (w:WE):HO:=.lst [.str w.ab,.int w.sh,.bl w.cu]
structure WdOk (H:Hp) (wd:Addr) (ws:List WE):Prop where
 hd:H wd=some (.dK (weK ws))
 ht:∀ w∈ws,H w.q=some (weL w)
 nd:(ws.map (·.q)).Nodup
theorem WdOk.same {H H':Hp} {wd:Addr} {ws:List WE} (h:WdOk H wd ws) (s:Same H H'):WdOk H' wd ws:=⟨s _ _ h.hd,fun w hw=>s _ _ (h.ht w hw),h.nd⟩
def wfn (ws:List WE) (x:Str):Option WE:=ws.find? fun w=>decide (w.nm=x)
theorem zjh (ws:List WE) (x:Str):valV (weK ws) (Sum.inr x:Key)=(wfn ws x).map fun w=>V.ref w.q:=by
 induction ws with
 | nil=>rfl
 | cons p r ih =>
  unfold valV weK wfn at ih ⊢
  rw [List.map_cons,List.find?_cons,List.find?_cons]
  by_cases h:p.nm=x
  ·simp [h]
  ·have h2:¬ (Sum.inr p.nm:Key)=Sum.inr x:=fun z=>h (Sum.inr.inj z)
   simp only [decide_eq_false h,decide_eq_false h2]
   exact ih
theorem zel {ws:List WE} {x:Str} {w:WE} (h:wfn ws x=some w):w∈ws/\w.nm=x:=by
 unfold wfn at h
 exact ⟨List.mem_of_find?_eq_some h,of_decide_eq_true (List.find?_some (p:=fun n:WE=>decide (n.nm=x)) h)⟩
theorem we_at {H:Hp} {wd:Addr} {ws:List WE} {x:Str} {w:WE} (O:WdOk H wd ws) (h:wfn ws x=some w):DGet H wd (.str x) (some (.ref w.q)):=by
 have:=DGet.k (k:=Sum.inr x) O.hd
 rw [zjh,h] at this
 exact this
structure NW (n:ND) (w:WE):Prop where
 nm:n.nm=w.nm
 ab:n.ab=some w.ab
 cu:n.bk.isSome=w.cu
def Mt (D:TD) (ws:List WE):Prop:=∃ r rest,D.ns=r :: rest/\Paired NW rest ws
theorem Mt.fnd {D:TD} {ws:List WE} (h:Mt D ws) (W:D.Wf) {x:Str} (hx:x≠road):(fndN D.ns x=none/\wfn ws x=none)\/∃ n w,fndN D.ns x=some n/\wfn ws x=some w/\NW n w:=by
 obtain ⟨r,rest,e,p⟩:=h
 obtain ⟨r',rest',e',r1,_⟩:=W.rd
 rw [e] at e'
 cases e'
 rw [e]
 have:fndN (r :: rest) x=fndN rest x:=by
  unfold fndN
  rw [List.find?_cons,decide_eq_false (fun z:r.nm=x=>hx (z.symm.trans r1))]
 rw [this]
 clear this e r1 hx W
 induction p with
 | nil=>exact .inl ⟨rfl,rfl⟩
 | @cons n w ns ws h t ih =>
  unfold fndN wfn at ih ⊢
  rw [List.find?_cons,List.find?_cons]
  by_cases c:n.nm=x
  ·have c2:w.nm=x:=h.nm ▸ c
   rw [decide_eq_true c,decide_eq_true c2]
   exact .inr ⟨n,w,rfl,rfl,h⟩
  ·have c2:¬ w.nm=x:=h.nm ▸ c
   rw [decide_eq_false c,decide_eq_false c2]
   exact ih
theorem Mt.noroad {D:TD} {ws:List WE} (h:Mt D ws) (W:D.Wf):wfn ws road=none:=by
 obtain ⟨r,rest,e,p⟩:=h
 obtain ⟨r',rest',e',r1,r2,_⟩:=W.rd
 rw [e] at e'
 cases e'
 have nn:=W.nn
 rw [e,List.map_cons,List.nodup_cons,r1] at nn
 have:=nn.1
 clear nn e r1 r2 W
 induction p with
 | nil=>rfl
 | @cons n w ns ws h t ih =>
  rw [List.map_cons,List.mem_cons,not_or] at this
  unfold wfn at ih ⊢
  rw [List.find?_cons,decide_eq_false (fun z=>this.1 (by rw [h.nm,z]))]
  exact ih this.2
theorem Mt.cls {D:TD} {ws:List WE} (h:Mt D ws) (W:D.Wf) {x:Str} (hx:wfn ws x=none):x=road\/fndN D.ns x=none:=by
 by_cases c:x=road
 ·exact .inl c
 ·rcases h.fnd W c with ⟨q,_⟩ | ⟨_,_,_,q,_⟩
  ·exact .inr q
  ·rw [hx] at q; cases q
theorem Mt.inn {D:TD} {ws:List WE} (h:Mt D ws) (W:D.Wf) {x:Str} {w:WE} (hx:wfn ws x=some w):x≠road/\∃ n,fndN D.ns x=some n/\NW n w:=by
 have c:x≠road:=fun z=>by rw [z,h.noroad W] at hx; cases hx
 rcases h.fnd W c with ⟨_,q⟩ | ⟨n,w',q1,q2,nw⟩
 ·rw [hx] at q; cases q
 ·rw [hx] at q2; cases q2
  exact ⟨c,n,q1,nw⟩
def MtS (D:TD) (ws:List WE):Prop:=∀ u∈D.ns,∀ c,u.ch=some c->c.2.nm=(ws.filter fun w=>decide (w.ab=u.nm)).map fun w=>(w.nm,w.sh)
def sumW (ws:List WE) (y:Str):Int:=((ws.filter fun w=>decide (w.ab=y)).map (·.sh)).sum
theorem zux:∀ {ws:List WE},(∀ w∈ws,1<=w.sh/\w.sh<=1000000)->(ws.length:Int)<=(ws.map (·.sh)).sum/\(ws.map (·.sh)).sum<=1000000*(ws.length:Int)
 | [],_=>⟨Int.le_refl _,Int.le_refl _⟩
 | p :: r,h=>by
  obtain ⟨i1,i2⟩:=zux (ws:=r) fun q hq=>h q (List.mem_cons_of_mem _ hq)
  have:=h p (List.mem_cons_self ..)
  rw [List.map_cons,List.sum_cons,List.length_cons]
  omega
def zwq:Sp:=fun vs H Q _=>∃ (wd:Addr) (ws:List WE) (x:Str) (w0:WE),vs = [.ref wd,.str x]/\WdOk H wd ws/\wfn ws x=some w0/\(∀ w∈ws,1<=w.sh/\w.sh<=1000000)/\ws.length<=60/\∀ p H',Same H H'->H' p=some (.tup (fq ((w0.sh:Rat) / (sumW ws w0.ab:Rat))))->Q (.ref p) H'
theorem zok (T:Txt K mg c_WheelError c_NoName c_Taken c_NoClass c_NoPlace c_NoShare c_NoCurb c_NoLength c_TooEarly c_Bucket c_Members c_Chooser c_Starts c_Rounds c_Node c_Tree):Def P w K mg base (CXX P w) 2 "_law_part" ["_law_world", "_law_name"] zwq:=by
 have D__law_lowest:=zln (P:=P) (w:=w) (base:=base) T
 refine T.src__law_part.okN (k:=1) sc__law_part (fun vs H Q E h=>?_) (fun f cdv A outer s H vs Q E hr h=>?_)
 ·obtain ⟨wd,ws,x,w0,rfl,_⟩:=h
  rfl
 ·obtain ⟨wd,ws,x,w0,rfl,O,hx,bd,wl,k⟩:=h
  refine ⟨_,(zad (zwb (zvv (i0:=2) ["_law_place"] [("_law_world", 0),("_law_name", 1)] rfl (by with_unfolding_all rfl) (by decide +kernel) rfl (by decide +kernel) (by exact ⟨rfl,⟨rfl,True.intro⟩⟩) (by with_unfolding_all rfl) ⟨⟨rfl,rfl,rfl⟩,⟨⟨rfl,rfl,rfl⟩,True.intro⟩⟩ (zvz (pv 0)) (fun _ _ _=>(zfn (i:=0) (show (["_law_place", "_law_world", "_law_name"]:List Str).Nodup from by decide +kernel) rfl (by first|left;rfl|right;rfl))) (fun _ _ _=>(zot (zay op_eq (pe_ix (zaz K rfl) (pv 0) zah (fun _ _=>rfl)) (pe_ix (zaz K rfl) (zdk (hu_of hr) (pv 1) (pv 2) (fun _ _=>rfl)) zah (fun _ _=>rfl)) (zbc _)))) (fun _ _ _=>(pe_ix (zaz K rfl) (pv 0) zah (fun _ _=>rfl))) (by with_unfolding_all rfl) sc__law_part.nd rfl (by first|left;rfl|right;rfl))) (zaf (zax (zba D__law_lowest (hr.mono (by decide)) rfl passN (zaa (pe_ix (zaz K rfl) (zdk (hu_of hr) (pv 0) (pv 1) (fun _ _=>rfl)) zah (fun _ _=>rfl)) (zaa (zck (zrp K rfl rfl) rfl T.no_sum boot_sum (zaa (pv 2) zag)) zag)))))),?_⟩
  show tSeq _ _ _ [some (.ref wd),some (.str x),none] H
  refine zae fun R hR=>?_
  walk_at "rd"
  unfold zus
  walk_at "rd"
  unfold iVals
  walk_at "rd"
  refine ⟨_,O.hd,fun o L hL=>?_⟩
  have nL:L≠wd:=fun z=>by rw [z,zac] at hL; cases hL
  have hL0:H L=none:=by rw [zai nL] at hL; exact hL
  have nq:∀ w∈ws,w.q≠wd:=fun w0 win z=>by have ht:=O.ht w0 win; rw [z,O.hd] at ht; cases ht
  obtain ⟨win0,wn0⟩:=zel hx
  have lk:(weK ws).length=ws.length:=List.length_map _
  refine zsf (fun i τ H'=>(∃ v0,τ = [v0,some (.ref wd),some (.str x)])/\Same (upd H wd (.frz o (.dK (weK ws)))) H'/\H' L=some (.lst ((((ws.take i).filter fun w=>decide (w.ab=w0.ab)).map (·.sh)).map V.int))) ⟨⟨none,rfl⟩,zak hL,zac⟩ (fun i τ H' _ ⟨_,sm,_⟩=>sm _ _ zac) ?_ ?_
  ·rintro i kv τ H6 hkv ⟨⟨v0,rfl⟩,sm,hLl⟩
   obtain ⟨w1,hw,rfl⟩:∃ w1,ws[i]? = some w1/\((Sum.inr w1.nm:Key),V.ref w1.q)=kv:=by
    unfold weK at hkv
    rw [List.getElem?_map] at hkv
    cases e:ws[i]? with
    | none=>rw [e] at hkv; cases hkv
    | some p=>rw [e] at hkv; exact ⟨p,rfl,Option.some.inj hkv⟩
   have win:=List.mem_of_getElem? hw
   have ht:H6 w1.q=some (weL w1):=sm _ _ (by rw [zai (nq w1 win)]; exact O.ht w1 win)
   have ht0:H6 w0.q=some (weL w0):=sm _ _ (by rw [zai (nq w0 win0)]; exact O.ht w0 win0)
   have hwd:Rd H6 wd (.dK (weK ws)):=.inr ⟨o,sm _ _ zac⟩
   have dg:DGet H6 wd (.str x) (some (.ref w0.q)):=.inl ⟨_,Sum.inr x,hwd,rfl,by rw [zjh,hx]; rfl⟩
   have ta:(ws.take (i+1)).filter (fun w=>decide (w.ab=w0.ab))=(ws.take i).filter (fun w=>decide (w.ab=w0.ab))++(if decide (w1.ab=w0.ab)=true then [w1] else []):=by
    rw [zpj hw,List.filter_append,List.filter_cons,List.filter_nil]
   walk_at "rd"
   refine zgj (.of ht) (v:=.str w1.ab) rfl ⟨_,dg,zgj (.of ht0) (v:=.str w0.ab) rfl ?_⟩
   walk_at "rd"
   refine ite2 (fun c=>zgj (.of ht) (v:=.int w1.sh) rfl ?_) fun c=>⟨sm,?_⟩
   ·refine ⟨_,hLl,zkv ?_,fun b u' e=>?_,?_⟩
    ·rw [List.length_map,List.length_map]
     have:=List.length_filter_le (fun w:WE=>decide (w.ab=w0.ab)) (ws.take i)
     rw [List.length_take] at this
     omega
    ·rw [zai (zao e hL)]; exact sm _ _ e
    ·rw [zac,ta,if_pos (by simp [c]),List.map_append,List.map_append]; rfl
   ·rw [ta,if_neg (by simp [c]),List.append_nil]; exact hLl
  ·rintro τ H6 ⟨_,sm,hLl⟩
   rw [lk,List.take_length] at hLl
   refine ⟨wd,⟨_,O.hd⟩,o,_,sm _ _ zac,hR _ _ ?_⟩
   clear hR
   have s2:Same H (upd H6 wd (.dK (weK ws))):=fun b u' e=>by
    by_cases z:b=wd
    ·subst z
     rw [O.hd] at e; cases e
     exact zac
    ·rw [zai z]
     exact sm _ _ (by rw [zai z]; exact e)
   have hL2:upd H6 wd (.dK (weK ws)) L=some (.lst ((((ws.filter fun w=>decide (w.ab=w0.ab)).map (·.sh)).map V.int))):=by rw [zai nL]; exact hLl
   generalize upd H6 wd (.dK (weK ws))=H7 at s2 hL2 ⊢
   have O7:=O.same s2
   walk_at "rd"
   obtain ⟨b1,b2⟩:=zux (ws:=ws.filter fun w=>decide (w.ab=w0.ab)) fun w hw=>bd w (List.mem_filter.mp hw).1
   have l1:0<(ws.filter fun w=>decide (w.ab=w0.ab)).length:=List.length_pos_of_mem (List.mem_filter.mpr ⟨win0,decide_eq_true rfl⟩)
   have l2:=List.length_filter_le (fun w:WE=>decide (w.ab=w0.ab)) ws
   have s0:=bd w0 win0
   refine ⟨_,we_at O7 hx,zgj (.of (O7.ht w0 win0)) (v:=.int w0.sh) rfl ⟨L,_,rfl,.of hL2,?_⟩⟩
   refine ⟨w0.sh,_,rfl,by omega,by omega,(Sw.Sz.r18 (by omega) (by omega)).mono (by decide),fun p hp=>k p _ (s2.trans (zak hp)) zac⟩
theorem zso (ws:List WE):allS (ws.map fun w=>(w.nm,w.sh))=(ws.map (·.sh)).sum:=by
 unfold allS
 rw [List.map_map]
 rfl
theorem zqm {D:TD} {ws:List WE} (W:D.Wf) (M:Mt D ws) (S:MtS D ws) {x:Str} {w0:WE} (hx:wfn ws x=some w0):partA D x = .fr ((w0.sh:Rat) / (sumW ws w0.ab:Rat)):=by
 obtain ⟨nr,n,hn,nw⟩:=M.inn W hx
 obtain ⟨u,c,ha,uin,hu,hc,shx⟩:=W.above nr hn
 obtain ⟨win,wn⟩:=zel hx
 have eu:u.nm=w0.ab:=by rw [nw.ab] at ha; exact (Option.some.inj ha).symm
 have ec:=S u uin c hc
 have cg:=(W.cok u uin c hc).gnm
 have es:shOf c.2.nm x=some w0.sh:=by
  have:=zpo cg.nd (p:=(w0.nm,w0.sh)) (by rw [ec]; exact List.mem_map.mpr ⟨w0,List.mem_filter.mpr ⟨win,decide_eq_true eu.symm⟩,rfl⟩)
  rw [<- wn]; exact this
 unfold partA
 rw [if_pos ⟨nr,by rw [hn]; simp⟩,hn]
 show (match n.ab with | none=>_ | some y=>_) = _
 rw [ha]
 show (match fndN D.ns u.nm with | none=>_ | some u=>_) = _
 rw [hu]
 show (match u.ch with | none=>_ | some c=>_) = _
 rw [hc]
 show Ask.fr (((shOf c.2.nm x).getD 0:Rat) / (allS c.2.nm:Rat)) = _
 rw [es,ec,zso,eu]
 rfl
def spSt (C:Cl):Sp:=fun vs H Q _=>∃ (D:TD) (wd:Addr) (ws:List WE) (x:Str),vs = [.ref D.p,.ref wd,.str x]/\TrOk C H D/\D.Wf/\D.fit/\Idle D/\WdOk H wd ws/\Mt D ws/\MtS D ws/\(∀ w∈ws,1<=w.sh/\w.sh<=1000000)/\ws.length<=60/\∀ H',Same H H'->Q (.bl true) H'
theorem zlo (T:Txt K mg c_WheelError c_NoName c_Taken c_NoClass c_NoPlace c_NoShare c_NoCurb c_NoLength c_TooEarly c_Bucket c_Members c_Chooser c_Starts c_Rounds c_Node c_Tree):Def P w K mg base (CXX P w) 7 "_law_stands" ["_law_tree", "_law_world", "_law_name"] (spSt (⟨c_Node,c_Starts,c_Rounds,c_Members,c_Bucket,c_Tree⟩:Cl)):=by
 have D__law_asked:=znj (P:=P) (w:=w) (base:=base) T
 have D__law_part:=zok (P:=P) (w:=w) (base:=base) T
 refine T.src__law_stands.okN (k:=6) sc__law_stands (fun vs H Q E h=>?_) (fun f cdv A outer s H vs Q E hr h=>?_)
 ·obtain ⟨D,wd,ws,x,rfl,_⟩:=h
  rfl
 ·obtain ⟨D,wd,ws,x,rfl,O,W,F,I,G,M,S,bd,wl,k⟩:=h
  refine ⟨_,(zad (zbd (i:=3) sc__law_stands.nd rfl (by first|left;rfl|right;rfl) (zba D__law_asked (hr.mono (by decide)) rfl passN (zaa (pv 0) (zaa (pv 2) (zaa zah zag))))) (zad (zbd (i:=4) sc__law_stands.nd rfl (by first|left;rfl|right;rfl) (zba D__law_asked (hr.mono (by decide)) rfl passN (zaa (pv 0) (zaa (pv 2) (zaa zah zag))))) (zad (ps_if (zjz (zgv (hu_of hr) (pv 2) (pv 1))) (zad (zbd (i:=5) sc__law_stands.nd rfl (by first|left;rfl|right;rfl) (zba D__law_asked (hr.mono (by decide)) rfl passN (zaa (pv 0) (zaa (pv 2) (zaa zah zag))))) (zaf (zax (zio (zei op_eq (pv 3) zaq (zbc _)) (zio (zei op_eq (pv 4) zaq (zbc _)) (zio (zei op_eq (zba D__law_asked (hr.mono (by decide)) rfl passN (zaa (pv 0) (zaa (pv 2) (zaa zah zag)))) zaq (zbc _)) (zio (zei op_eq (zba D__law_asked (hr.mono (by decide)) rfl passN (zaa (pv 0) (zaa (pv 2) (zaa zah zag)))) zaq (zbc _)) (zlr (zei op_eq (pv 5) (zsw (zay op_eq (pv 2) zaq (zbc _)) pe_bl zaq) (zbc _)))))))))) zaw) (zaf (zax (zio (zei (zvo K rfl hr.units) (pv 3) (zba D__law_part (hr.mono (by decide)) rfl passN (zaa (pv 1) (zaa (pv 2) zag))) (zbc _)) (zio (zei op_eq (pv 4) (pe_ix (zaz K rfl) (zdk (hu_of hr) (pv 1) (pv 2) (fun _ _=>rfl)) zah (fun _ _=>rfl)) (zbc _)) (zlr (zei op_eq (zba D__law_asked (hr.mono (by decide)) rfl passN (zaa (pv 0) (zaa (pv 2) (zaa zah zag)))) pe_bl (zbc _)))))))))),?_⟩
  show tSeq _ _ _ [some (.ref D.p),some (.ref wd),some (.str x),none,none,none] H
  refine zae fun R hR=>?_
  walk_at "rd"
  refine ⟨D,x,0,rfl,O,W,F,I,.inl rfl,fun _ v1 H1 s1 a1=>hR _ _ ?_,fun z=>by omega,fun z=>by omega,fun z=>by omega⟩
  clear hR
  refine zae fun R hR=>?_
  walk_at "rd"
  refine ⟨D,x,3,rfl,O.same s1,W,F,I,.inr (.inl rfl),fun z=>by omega,fun z=>by omega,fun _ H2 s2=>hR _ _ ?_,fun z=>by omega⟩
  clear hR
  have s12:=s1.trans s2
  have G2:=G.same s12
  refine zae fun R hR=>?_
  walk_at "rd"
  cases hx:wfn ws x with
  | none =>
   have cl:=M.cls W hx
   have dg:DGet H2 wd (.str x) none:=by
    have:=DGet.k (k:=Sum.inr x) G2.hd
    rwa [zjh,hx] at this
   have pa:partA D x = .cls:=by unfold partA; rw [if_neg (zdt cl)]
   rw [pa] at a1
   obtain rfl:v1=W1 "class" := a1
   rw [if_neg (zdt cl)]
   refine ⟨_,dg,ite2 (fun _=>?_) fun z=>absurd rfl z⟩
   clear hR
   refine zae fun R hR=>?_
   walk_at "rd"
   refine ⟨D,x,4,rfl,O.same s12,W,F,I,.inr (.inr (.inl rfl)),fun z=>by omega,fun z=>by omega,fun z=>by omega,fun _ H3 s3=>hR _ _ ?_⟩
   clear hR
   have s13:=s12.trans s3
   have ask:∀ (v:V) (Hx:Hp),Same H Hx->v=(if x=road\/fndN D.ns x≠none then V.bl false else W1 "class")->v=(if x=road then V.bl false else W1 "class"):=fun v Hx _ e=>by
    rw [e]
    by_cases c:x=road
    ·rw [if_pos (.inl c),if_pos c]
    ·rw [if_neg (fun z=>z.elim c fun y=>y (cl.resolve_left c)),if_neg c]
   have em:=ask _ H3 s13 rfl
   rw [em]
   clear ask em
   walk_at "rd"
   refine ⟨rfl,ite2 (fun _=>⟨rfl,ite2 (fun _=>?_) fun z=>absurd rfl z⟩) fun z=>absurd rfl z⟩
   refine ⟨D,x,1,rfl,O.same s13,W,F,I,.inr (.inr (.inr ⟨zdt cl,.inl rfl⟩)),fun z=>by omega,fun _ H4 s4=>⟨rfl,ite2 (fun _=>?_) fun z=>absurd rfl z⟩,fun z=>by omega,fun z=>by omega⟩
   have s14:=s13.trans s4
   refine ⟨D,x,2,rfl,O.same s14,W,F,I,.inr (.inr (.inr ⟨zdt cl,.inr rfl⟩)),fun z=>by omega,fun _ H5 s5=>⟨rfl,ite2 (fun _=>?_) fun z=>absurd rfl z⟩,fun z=>by omega,fun z=>by omega⟩
   have s15:=s14.trans s5
   refine ite2 (fun c=>?_) fun c=>?_
   ·rw [if_pos (show x=road from c)]
    exact ⟨rfl,by simpa using k H5 s15⟩
   ·rw [if_neg (show ¬ x=road from c)]
    exact ⟨rfl,by simpa [W1] using k H5 s15⟩
  | some w0 =>
   refine ⟨_,we_at G2 hx,ite2 (fun z=>by cases z) fun _=>hR _ _ ?_⟩
   clear hR
   rw [zqm W M S hx] at a1
   obtain ⟨p1,rfl,hp1⟩:=a1
   obtain ⟨nr,n,hn,nw⟩:=M.inn W hx
   rw [if_pos ⟨nr,by rw [hn]; simp⟩,hn]
   walk_at "rd"
   refine ⟨wd,ws,x,w0,rfl,G2,hx,bd,wl,fun p3 H3 s3 h3=>?_⟩
   have s13:=s12.trans s3
   have G3:=G2.same s3
   have h1:=s3 _ _ (s2 _ _ hp1)
   refine ⟨.tuple [.int _,.int _],.tuple [.int _,.int _],.tup (.of h1) (.cons (.int _) (.cons (.int _) .nil)),.tup (.of h3) (.cons (.int _) (.cons (.int _) .nil)),rfl,rfl,_,rfl,ite2 (fun _=>?_) fun z=>absurd (by simp [PyData.eqv,PyData.eqvAll]) z⟩
   refine ⟨_,we_at G3 hx,zgj (.of (G3.ht w0 (zel hx).1)) (v:=.bl w0.cu) rfl ⟨rfl,ite2 (fun _=>?_) fun z=>absurd (congrArg V.bl nw.cu) z⟩⟩
   refine ⟨D,x,4,rfl,O.same s13,W,F,I,.inr (.inr (.inl rfl)),fun z=>by omega,fun z=>by omega,fun z=>by omega,fun _ H4 s4=>?_⟩
   rw [if_pos (.inr (by rw [hn]; simp))]
   exact ⟨rfl,by simpa using k H4 (s13.trans s4)⟩
theorem zki {α β:Type} {R:α->β->Prop} {f:α->α} {g:β->β}:∀ {l:List α} {k:List β},Paired R l k->(∀ a∈l,∀ b∈k,R a b->R (f a) (g b))->Paired R (l.map f) (k.map g)
 | _,_,.nil,_=>.nil
 | _,_,.cons h t,m=>.cons (m _ (List.mem_cons_self ..) _ (List.mem_cons_self ..) h) (zki t fun a ha b hb=>m a (List.mem_cons_of_mem _ ha) b (List.mem_cons_of_mem _ hb))
theorem Mt.map {D D':TD} {ws:List WE} {f:ND->ND} {g:WE->WE} (M:Mt D ws) (e:D'.ns=D.ns.map f) (h:∀ n∈D.ns,∀ w∈ws,NW n w->NW (f n) (g w)):Mt D' (ws.map g):=by
 obtain ⟨r,rest,e0,p⟩:=M
 exact ⟨f r,rest.map f,by rw [e,e0]; rfl,zki p fun n hn w hw=>h n (by rw [e0]; exact List.mem_cons_of_mem _ hn) w hw⟩
def setW (ws:List WE) (w:WE):List WE:=ws.map fun y=>if y.nm=w.nm then w else y
theorem uniq {D:TD} (W:D.Wf) {n m:ND} (hn:n∈D.ns) (hm:m∈D.ns) (e:n.nm=m.nm):n=m:=by
 have h1:=zfs W.nn hn
 have h2:=zfs W.nn hm
 rw [e,h2] at h1
 exact (Option.some.inj h1).symm
theorem uniqW {D:TD} {ws:List WE} (M:Mt D ws) (W:D.Wf) {x:Str} {w0:WE} (hx:wfn ws x=some w0):∀ w∈ws,w.nm=x->w=w0:=by
 obtain ⟨r,rest,e,p⟩:=M
 have nn:=W.nn
 rw [e,List.map_cons,List.nodup_cons] at nn
 replace nn:=nn.2
 clear e W
 induction p with
 | nil=>intro w hw; cases hw
 | @cons n w ns ws h t ih =>
  rw [List.map_cons,List.nodup_cons] at nn
  intro w1 hw1 e1
  unfold wfn at hx ih
  rw [List.find?_cons] at hx
  by_cases c:w.nm=x
  ·rw [decide_eq_true c] at hx
   cases hx
   rcases List.mem_cons.mp hw1 with z | z
   ·exact z
   ·exfalso
    have:w1.nm∈ns.map (·.nm):=by
     clear ih hw1 nn h
     induction t with
     | nil=>cases z
     | @cons n' w' ns' ws' h' t' ih' =>
      rcases List.mem_cons.mp z with y | y
      ·rw [y,<- h'.nm]; exact List.mem_cons_self ..
      ·exact List.mem_cons_of_mem _ (ih' y)
    exact nn.1 (by rw [h.nm,c,<- e1]; exact this)
  ·rw [decide_eq_false c] at hx
   rcases List.mem_cons.mp hw1 with z | z
   ·rw [z] at e1; exact absurd e1 c
   ·exact ih hx nn.2 w1 z e1
theorem Mt.curb {D:TD} {ws:List WE} (M:Mt D ws) (W:D.Wf) {x:Str} {n:ND} {w0:WE} (hn:fndN D.ns x=some n) (hx:wfn ws x=some w0) (bk:Option (Addr×BkS)):Mt (D.curb n bk) (setW ws { w0 with cu:=bk.isSome }):=by
 obtain ⟨nin,ne⟩:=zcc hn
 obtain ⟨win,we⟩:=zel hx
 refine M.map (f:=fun y=>if y.nm=n.nm then { n with bk:=bk } else y) rfl fun m hm w hw nw=>?_
 show NW (if m.nm=n.nm then _ else _) (if w.nm=w0.nm then _ else _)
 by_cases c:m.nm=n.nm
 ·have c2:w.nm=w0.nm:=by rw [<- nw.nm,c,ne,we]
  rw [if_pos c,if_pos c2]
  have:=uniq W hm nin c
  subst this
  have:=uniqW M W hx w hw (c2.trans we)
  subst this
  exact ⟨nw.nm,nw.ab,rfl⟩
 ·have c2:¬ w.nm=w0.nm:=fun z=>c (by rw [nw.nm,z,ne,we])
  rw [if_neg c,if_neg c2]
  exact nw
theorem Mt.resh {D:TD} {ws:List WE} (M:Mt D ws) (W:D.Wf) {x:Str} {u:ND} {c:At5×CSt} {w0:WE} (hu:u∈D.ns) (hx:wfn ws x=some w0) (s:Int):Mt (D.resh u c x s) (setW ws { w0 with sh:=s }):=by
 obtain ⟨win,we⟩:=zel hx
 refine M.map (f:=fun y=>if y.nm=u.nm then { u with ch:=some (c.1,c.2.resh D.most x s) } else y) rfl fun m hm w hw nw=>?_
 have n2:NW m (if w.nm=w0.nm then { w0 with sh:=s } else w):=by
  by_cases c2:w.nm=w0.nm
  ·rw [if_pos c2]
   have:=uniqW M W hx w hw (c2.trans we)
   subst this
   exact ⟨nw.nm,nw.ab,nw.cu⟩
  ·rw [if_neg c2]; exact nw
 show NW (if m.nm=u.nm then _ else _) (if w.nm=w0.nm then _ else _)
 by_cases c1:m.nm=u.nm
 ·rw [if_pos c1]
  have:=uniq W hm hu c1
  subst this
  exact ⟨n2.nm,n2.ab,n2.cu⟩
 ·rw [if_neg c1]; exact n2
theorem MtS.curb {D:TD} {ws:List WE} (S:MtS D ws) {n:ND} {w0:WE} (nin:n∈D.ns) (un:∀ w∈ws,w.nm=w0.nm->w=w0) (bk:Option (Addr×BkS)) (b:Bool):MtS (D.curb n bk) (setW ws { w0 with cu:=b }):=by
 have key:∀ y:Str,((setW ws { w0 with cu:=b }).filter fun w=>decide (w.ab=y)).map (fun w=>(w.nm,w.sh))=(ws.filter fun w=>decide (w.ab=y)).map fun w=>(w.nm,w.sh):=fun y=>by
  clear S
  induction ws with
  | nil=>rfl
  | cons p r ih =>
   have ih:=ih fun w hw=>un w (List.mem_cons_of_mem _ hw)
   unfold setW at ih ⊢
   rw [List.map_cons,List.filter_cons,List.filter_cons]
   by_cases c:p.nm=w0.nm
   ·have:=un p (List.mem_cons_self ..) c
    subst this
    rw [if_pos rfl]
    by_cases c2:p.ab=y
    ·rw [if_pos (by simpa using c2),if_pos (by simpa using c2),List.map_cons,List.map_cons,ih]
    ·rw [if_neg (by simpa using c2),if_neg (by simpa using c2),ih]
   ·rw [if_neg (show ¬ p.nm=({ w0 with cu:=b }:WE).nm from c)]
    by_cases c2:p.ab=y
    ·rw [if_pos (by simpa using c2),if_pos (by simpa using c2),List.map_cons,List.map_cons,ih]
    ·rw [if_neg (by simpa using c2),if_neg (by simpa using c2),ih]
 intro u hu c hc
 rw [key]
 unfold TD.curb setN at hu
 obtain ⟨y,hy,e⟩:=List.mem_map.mp hu
 by_cases c1:y.nm=({ n with bk:=bk }:ND).nm
 ·rw [if_pos c1] at e
  subst e
  exact S n nin c hc
 ·rw [if_neg c1] at e
  subst e
  exact S y hy c hc
theorem zsp {ws:List WE} {w0:WE} (un:∀ w∈ws,w.nm=w0.nm->w=w0) (s:Int) (y:Str):((setW ws { w0 with sh:=s }).filter fun w=>decide (w.ab=y)).map (fun w=>(w.nm,w.sh))=putN ((ws.filter fun w=>decide (w.ab=y)).map fun w=>(w.nm,w.sh)) w0.nm s:=by
 induction ws with
 | nil=>rfl
 | cons p r ih =>
  have ih:=ih fun w hw=>un w (List.mem_cons_of_mem _ hw)
  unfold setW putN at ih ⊢
  rw [List.map_cons,List.filter_cons,List.filter_cons]
  by_cases c:p.nm=w0.nm
  ·have:=un p (List.mem_cons_self ..) c
   subst this
   rw [if_pos rfl]
   by_cases c2:p.ab=y
   ·rw [if_pos (by simpa using c2),if_pos (by simpa using c2),List.map_cons,List.map_cons,List.map_cons,ih,if_pos rfl]
   ·rw [if_neg (by simpa using c2),if_neg (by simpa using c2),ih]
  ·rw [if_neg (show ¬ p.nm=({ w0 with sh:=s }:WE).nm from c)]
   by_cases c2:p.ab=y
   ·rw [if_pos (by simpa using c2),if_pos (by simpa using c2),List.map_cons,List.map_cons,List.map_cons,ih,if_neg c]
   ·rw [if_neg (by simpa using c2),if_neg (by simpa using c2),ih]
theorem zpp {x:Str} {s:Int}:∀ {nm:Nm},x ∉ nm.map (·.1)->putN nm x s=nm
 | [],_=>rfl
 | p :: r,h=>by
  rw [List.map_cons,List.mem_cons,not_or] at h
  have ih:=zpp (s:=s) h.2
  unfold putN at ih ⊢
  rw [List.map_cons,ih,if_neg (Ne.symm h.1)]
theorem MtS.resh {D:TD} {ws:List WE} (S:MtS D ws) (W:D.Wf) {u:ND} {c:At5×CSt} {w0:WE} (hu:u∈D.ns) (hc:u.ch=some c) (eu:u.nm=w0.ab) (win:w0∈ws) (un:∀ w∈ws,w.nm=w0.nm->w=w0) (s:Int):MtS (D.resh u c w0.nm s) (setW ws { w0 with sh:=s }):=by
 intro m hm d hd
 rw [zsp un]
 unfold TD.resh setN at hm
 obtain ⟨y,hy,e⟩:=List.mem_map.mp hm
 by_cases c1:y.nm=u.nm
 ·rw [if_pos (show y.nm=({ u with ch:=some (c.1,c.2.resh D.most w0.nm s) }:ND).nm from c1)] at e
  subst e
  cases hd
  show (c.2.resh D.most w0.nm s).nm = _
  rw [CSt.nm_resh,S u hu c hc]
 ·rw [if_neg (show ¬ y.nm=({ u with ch:=some (c.1,c.2.resh D.most w0.nm s) }:ND).nm from c1)] at e
  subst e
  rw [S y hy d hd,zpp]
  intro z
  obtain ⟨p,hp,e⟩:=List.mem_map.mp z
  obtain ⟨w,hw,rfl⟩:=List.mem_map.mp hp
  obtain ⟨h1,h2⟩:=List.mem_filter.mp hw
  have:=un w h1 e
  subst this
  exact c1 (by rw [eu]; exact (of_decide_eq_true h2).symm)
theorem zwr {ws:List WE} (nd:(ws.map (·.q)).Nodup) {a b:WE} (ha:a∈ws) (hb:b∈ws) (e:a.q=b.q):a=b:=by
 induction ws with
 | nil=>cases ha
 | cons p r ih =>
  rw [List.map_cons,List.nodup_cons] at nd
  rcases List.mem_cons.mp ha with x | x <;> rcases List.mem_cons.mp hb with y | y
  ·rw [x,y]
  ·exact absurd (List.mem_map.mpr ⟨b,y,by rw [<- e,x]⟩) nd.1
  ·exact absurd (List.mem_map.mpr ⟨a,x,by rw [e,y]⟩) nd.1
  ·exact ih nd.2 x y
theorem WdOk.row {H:Hp} {wd:Addr} {ws:List WE} (O:WdOk H wd ws) {w0 w1:WE} (win:w0∈ws) (e:w1.nm=w0.nm) (eq:w1.q=w0.q) (un:∀ w∈ws,w.nm=w0.nm->w=w0):WdOk (upd H w0.q (weL w1)) wd (setW ws w1):=by
 have nq:wd≠w0.q:=fun z=>by have ht:=O.ht w0 win; rw [<- z,O.hd] at ht; cases ht
 have qs:(setW ws w1).map (·.q)=ws.map (·.q):=by
  unfold setW
  rw [List.map_map]
  refine List.map_congr_left fun w hw=>?_
  show (if w.nm=w1.nm then w1 else w).q=w.q
  split
  ·rename_i z
   rw [un w hw (z.trans e),eq]
  ·rfl
 have ks:weK (setW ws w1)=weK ws:=by
  unfold setW weK
  rw [List.map_map]
  refine List.map_congr_left fun w hw=>?_
  show ((Sum.inr (if w.nm=w1.nm then w1 else w).nm:Key),V.ref (if w.nm=w1.nm then w1 else w).q) = _
  split
  ·rename_i z
   rw [un w hw (z.trans e),eq,e]
  ·rfl
 refine ⟨by rw [zai nq,ks]; exact O.hd,fun w hw=>?_,by rw [qs]; exact O.nd⟩
 unfold setW at hw
 obtain ⟨y,hy,z⟩:=List.mem_map.mp hw
 by_cases c:y.nm=w1.nm
 ·rw [if_pos c] at z
  subst z
  rw [eq]
  exact zac
 ·rw [if_neg c] at z
  subst z
  rw [zai (fun q=>c (by rw [zwr O.nd hy win q,e]))]
  exact O.ht y hy
theorem Idle.curb {D:TD} (I:Idle D) {n:ND} (nin:n∈D.ns) (bk:Option (Addr×BkS)):Idle (D.curb n bk):=fun m hm=>by
 unfold TD.curb setN at hm
 obtain ⟨y,hy,e⟩:=List.mem_map.mp hm
 split at e
 ·subst e; exact I n nin
 ·subst e; exact I y hy
theorem Idle.resh {D:TD} (I:Idle D) {u:ND} (hu:u∈D.ns) (c:At5×CSt) (x:Str) (s:Int):Idle (D.resh u c x s):=fun m hm=>by
 unfold TD.resh setN at hm
 obtain ⟨y,hy,e⟩:=List.mem_map.mp hm
 split at e
 ·subst e; exact I u hu
 ·subst e; exact I y hy
theorem pickV {K:PySem.W.Frag} {H:Hp} {t:Addr} {i:Int} {Q:VK} (xs:List V) (h0:0<=i) (h1:i<xs.length) (k:∀ v∈xs,Q v (upd H t (.lst xs))):rIxL K (.ref t) (.int i) (upd H t (.lst xs)) Q:=by
 have e:=zhi (xs:=xs) (j:=i.toNat) (v:=xs[i.toNat]'(by omega)) (List.getElem?_eq_getElem (by omega))
 rw [Int.toNat_of_nonneg h0] at e
 exact zgj (.of zac) e (k _ (List.getElem_mem _))
def PutOk (C:Cl) (D:TD) (x u kd:Str) (s:Int) (rm:V) (H H':Hp) (D':TD):Prop:=∃ (un:ND) (c:At5×CSt) (n:ND),D'=D.put un c s n/\fndN D.ns u=some un/\un.ch=some c/\n.nm=x/\n.ab=some u/\n.rm=rm/\n.bk=none/\n.ps = []/\n.qu = []/\(kd=Str.ofString "leaf" -> n.ch=none)/\(Inner kd->∃ a,n.ch=some (a,CSt.new (kdB kd)))/\(∀ b∈n.foot,H b=none)/\TrOk C H' D'/\Deed D.foot H H'
theorem zws {D:TD} {x u kd:Str} {s:Int} {rm:V} (h:dueP D x u kd s rm=none):zeo x/\fndN D.ns x=none/\(∃ n,fndN D.ns u=some n/\kdOk kd/\n.ch≠none/\∀ ys,Up D.ns u ys->ys.length<=5)/\(1<=s/\s<=1000000):=by
 by_cases c1:zeo x
 case neg=>rw [zpk c1] at h; cases h
 cases hx:fndN D.ns x with
 | some v=>rw [zmu c1 (by rw [hx]; simp)] at h; cases h
 | none =>
 cases hu:fndN D.ns u with
 | none=>rw [zsi c1 hx hu] at h; cases h
 | some n =>
 by_cases c2:kdOk kd/\n.ch≠none/\∀ ys,Up D.ns u ys->ys.length<=5
 case neg=>rw [zmv c1 hx hu c2] at h; cases h
 by_cases c3:1<=s/\s<=1000000
 case neg=>rw [zmw c1 hx hu c2 c3] at h; cases h
 exact ⟨c1,rfl,⟨n,rfl,c2⟩,c3⟩
theorem zpq {x:Str} (h:zeo x):PyData.strOk x=true/\x.length<=8:=by
 refine ⟨?_,h.1.2⟩
 rw [zxz]
 intro c hc
 have:∀ c∈lets.cps.toList,c<1114112:=by decide +kernel
 exact this c (h.2 c hc)
theorem PutOk.wf {C:Cl} {D D':TD} {x u kd:Str} {s:Int} {rm:V} {H H':Hp} (h:PutOk C D x u kd s rm H H' D') (W:D.Wf) (d:dueP D x u kd s rm=none):D'.Wf:=by
 obtain ⟨un,c,n,rfl,hu,hc,h1,h2,h3,h4,h5,h6,h7,h8,h9,h10,h11⟩:=h
 obtain ⟨nok,hx,⟨n',hu',ok,_,dp⟩,sh⟩:=zws d
 rw [hu] at hu'; cases hu'
 obtain ⟨uin,une⟩:=zcc hu
 have nx:shOf c.2.nm x=none:=by
  rw [Sw.sh_none,W.kid un uin c hc]
  intro z
  unfold kids at z
  obtain ⟨y,hy,e⟩:=List.mem_map.mp z
  exact fnd_none.mp hx (List.mem_map.mpr ⟨y,(List.mem_filter.mp hy).1,e⟩)
 have so:=zpq nok
 subst h1
 refine W.put uin hc rfl ((W.cok un uin c hc).put nx sh.1 sh.2 so.1) hx (by rw [h2,une]) (fun ys U=>dp ys (by rw [<- une]; exact U)) (fun d hd=>?_) so
 rcases ok with z | z
 ·rw [h7 z] at hd; cases hd
 ·obtain ⟨a,e⟩:=h8 z
  rw [e] at hd; cases hd
  exact ⟨CSt.nm_new _,CSt.Ok.new W.m1.1 _⟩
theorem zfh {ns:List ND} {n y:ND} (h:y∈setN ns n):y=n\/(y∈ns/\y.nm≠n.nm):=by
 unfold setN at h
 obtain ⟨z,hz,q⟩:=List.mem_map.mp h
 split at q
 ·exact .inl q.symm
 ·rename_i k
  exact .inr ⟨q ▸ hz,q ▸ k⟩
theorem PutOk.foot {C:Cl} {D D':TD} {x u kd:Str} {s:Int} {rm:V} {H H':Hp} (h:PutOk C D x u kd s rm H H' D'):∀ b∈D'.foot,b∈D.foot\/H b=none:=by
 obtain ⟨un,c,n,rfl,hu,hc,h1,h2,h3,h4,h5,h6,h7,h8,h9,h10,h11⟩:=h
 intro b hb
 obtain ⟨uin,une⟩:=zcc hu
 unfold TD.foot at hb
 rcases List.mem_cons.mp hb with z | hb
 ·exact .inl (z ▸ List.mem_cons_self ..)
 rcases List.mem_cons.mp hb with z | hb
 ·exact .inl (z ▸ List.mem_cons_of_mem _ (List.mem_cons_self ..))
 rcases List.mem_cons.mp hb with z | hb
 ·exact .inl (z ▸ List.mem_cons_of_mem _ (List.mem_cons_of_mem _ (List.mem_cons_self ..)))
 obtain ⟨y,hy,z⟩:=List.mem_flatMap.mp hb
 rcases List.mem_append.mp hy with hy | hy
 ·rcases zfh hy with q | q
  ·left
   refine TD.mem_node uin ?_
   rw [q] at z
   unfold ND.foot at z ⊢
   rw [hc]; exact z
  ·exact .inl (TD.mem_node q.1 z)
 ·rw [List.mem_singleton.mp hy] at z
  exact .inr (h9 b z)
theorem PutOk.len {C:Cl} {D D':TD} {x u kd:Str} {s:Int} {rm:V} {H H':Hp} (h:PutOk C D x u kd s rm H H' D'):D'.ns.length=D.ns.length+1:=by
 obtain ⟨un,c,n,rfl,_⟩:=h
 show (setN D.ns _++[n]).length = _
 rw [List.length_append]
 unfold setN
 rw [List.length_map]; rfl
theorem zyj (c:CSt) (x:Str) (s:Int):(c.put x s).sz<=c.sz+3:=by
 cases c with
 | st=>exact Nat.le_refl _
 | rd nm q rs tu ch =>
  show (nm++[(x,s)]).length<=nm.length+3
  rw [List.length_append]; simp
theorem PutOk.full {C:Cl} {D D':TD} {x u kd:Str} {s:Int} {rm:V} {H H':Hp} (h:PutOk C D x u kd s rm H H' D') (ok:kdOk kd) (F:D.full) (l:D.ns.length<60):D'.full:=by
 have ln:=h.len
 obtain ⟨un,c,n,rfl,hu,hc,h1,h2,h3,h4,h5,h6,h7,h8,h9,h10,h11⟩:=h
 obtain ⟨uin,une⟩:=zcc hu
 refine ⟨by omega,fun y hy d hd=>?_⟩
 rw [ln]
 rcases List.mem_append.mp hy with hy | hy
 ·rcases zfh hy with q | q
  ·rw [q] at hd
   cases hd
   have:=zyj c.2 n.nm s
   have:=F.2 un uin c hc
   show (c.2.put n.nm s).sz<=_
   omega
  ·have:=F.2 y q.1 d hd
   omega
 ·rw [List.mem_singleton.mp hy] at hd
  rcases ok with z | z
  ·rw [h7 z] at hd; cases hd
  ·obtain ⟨a,e⟩:=h8 z
   rw [e] at hd; cases hd
   have:(CSt.new (kdB kd)).sz = 0:=by cases kdB kd <;> rfl
   show (CSt.new (kdB kd)).sz<=_
   rw [this]; omega
theorem Mt.nd {D:TD} {ws:List WE} (h:Mt D ws) (W:D.Wf):(ws.map (·.nm)).Nodup:=by
 obtain ⟨r,rest,e,p⟩:=h
 have nn:=W.nn
 rw [e,List.map_cons,List.nodup_cons] at nn
 have eq:∀ {l:List ND} {ws:List WE},Paired NW l ws->l.map (·.nm)=ws.map (·.nm):=fun {l ws} p=>by
  induction p with
  | nil=>rfl
  | cons a b ih=>rw [List.map_cons,List.map_cons,ih,a.nm]
 rw [<- eq p]
 exact nn.2
theorem zuy {ws:List WE} (nd:(ws.map (·.nm)).Nodup) {w:WE} (h:w∈ws):wfn ws w.nm=some w:=by
 induction ws with
 | nil=>cases h
 | cons y r ih =>
  rw [List.map_cons,List.nodup_cons] at nd
  unfold wfn
  rw [List.find?_cons]
  rcases List.mem_cons.mp h with e | e
  ·subst e; simp
  ·have ne:decide (y.nm=w.nm)=false:=decide_eq_false fun z=>nd.1 (by rw [z]; exact List.mem_map.mpr ⟨w,e,rfl⟩)
   rw [ne]
   exact ih nd.2 e
theorem zwt {ws:List WE} {w:WE} (h:wfn ws w.nm=none):putK (weK ws) (Sum.inr w.nm:Key) (.ref w.q)=weK (ws++[w]):=by
 unfold putK
 have e:((weK ws).any fun kv=>decide (kv.1=(Sum.inr w.nm:Key)))=false:=by
  rw [zfe,zjh,h]; rfl
 rw [e,if_neg (by decide)]
 unfold weK
 rw [List.map_append]; rfl
theorem zqn {D:TD} (nn:(D.ns.map (·.nm)).Nodup) {un un':ND} (hu:un∈D.ns) (en:un'.nm=un.nm) (ok:∀ w,NW un w->NW un' w) {l:List ND} {ws:List WE} (hl:∀ y∈l,y∈D.ns) (p:Paired NW l ws):Paired NW (setN l un') ws:=by
 induction p with
 | nil=>exact .nil
 | @cons y v l ws a b ih =>
  refine .cons ?_ (ih fun z hz=>hl z (List.mem_cons_of_mem _ hz))
  show NW (if y.nm=un'.nm then un' else y) v
  by_cases q:y.nm=un'.nm
  ·have:y=un:=by
    have h1:=zfs nn (hl y (List.mem_cons_self ..))
    rw [q,en,zfs nn hu] at h1
    exact (Option.some.inj h1).symm
   subst this
   rw [if_pos q]; exact ok v a
  ·rw [if_neg q]; exact a
theorem zsq (ns:List Str) (lo hi:Option Int):∃ ms:List Str,cutV (ns.map V.str) lo hi=ms.map V.str/\ms.length<=ns.length/\∀ x∈ms,x∈ns:=by
 refine ⟨(ns.drop (HT.sIx (ns.map V.str).length 0 lo)).take (HT.sIx (ns.map V.str).length (ns.map V.str).length hi-HT.sIx (ns.map V.str).length 0 lo),?_,?_,fun x h=>List.mem_of_mem_drop (List.mem_of_mem_take h)⟩
 ·unfold cutV
  rw [List.map_take,List.map_drop]
 ·rw [List.length_take,List.length_drop]
  omega
theorem PutOk.mt {C:Cl} {D D':TD} {x u kd:Str} {s:Int} {rm:V} {H H':Hp} {ws:List WE} (h:PutOk C D x u kd s rm H H' D') (M:Mt D ws) (W:D.Wf) (q:Addr):Mt D' (ws++[⟨x,q,u,s,false⟩]):=by
 obtain ⟨un,c,n,rfl,hu,hc,h1,h2,h3,h4,h5,h6,h7,h8,h9,h10,h11⟩:=h
 obtain ⟨r,rest,e,p⟩:=M
 obtain ⟨uin,une⟩:=zcc hu
 refine ⟨if r.nm=un.nm then { un with ch:=some (c.1,c.2.put n.nm s) } else r,setN rest { un with ch:=some (c.1,c.2.put n.nm s) }++[n],?_,?_⟩
 ·show setN D.ns _++[n] = _
  rw [e]; rfl
 ·exact ziu (F:=NW) ⟨h1,h2,by rw [h4]; rfl⟩ (zqn (un':={ un with ch:=some (c.1,c.2.put n.nm s) }) W.nn uin rfl (fun w a=>⟨a.nm,a.ab,a.cu⟩) (fun y hy=>by rw [e]; exact List.mem_cons_of_mem _ hy) p)
theorem Mt.abv {D:TD} {ws:List WE} (M:Mt D ws) (W:D.Wf) {v:WE} (hv:v∈ws):fndN D.ns v.ab≠none:=by
 obtain ⟨nr,n,hn,nw⟩:=M.inn W (zuy (M.nd W) hv)
 obtain ⟨u,c,ha,uin,hu,_⟩:=W.above nr hn
 rw [nw.ab] at ha
 rw [Option.some.inj ha,hu]
 simp
theorem PutOk.mts {C:Cl} {D D':TD} {x u kd:Str} {s:Int} {rm:V} {H H':Hp} {ws:List WE} (h:PutOk C D x u kd s rm H H' D') (ok:Inner kd) (hx:fndN D.ns x=none) (M:Mt D ws) (S:MtS D ws) (W:D.Wf) (q:Addr):MtS D' (ws++[⟨x,q,u,s,false⟩]):=by
 obtain ⟨un,c,n,rfl,hu,hc,h1,h2,h3,h4,h5,h6,h7,h8,h9,h10,h11⟩:=h
 obtain ⟨uin,une⟩:=zcc hu
 intro y hy d hd
 rw [List.filter_append,List.map_append]
 rcases List.mem_append.mp hy with hy | hy
 ·rcases zfh hy with z | z
  ·rw [z] at hd ⊢
   cases hd
   show (c.2.put n.nm s).nm = _
   rw [CSt.nm_put,S un uin c hc,h1]
   simp [une]
  ·have:¬ u=y.nm:=fun q=>z.2 (q.symm.trans une.symm)
   rw [S y z.1 d hd]
   simp [this]
 ·rw [List.mem_singleton.mp hy] at hd ⊢
  obtain ⟨a,e⟩:=h8 ok
  rw [e] at hd
  cases hd
  show (CSt.new (kdB kd)).nm = _
  have nu:¬ u=n.nm:=fun z=>by rw [<- z.trans h1,hu] at hx; cases hx
  have no:ws.filter (fun w=>decide (w.ab=n.nm)) = []:=by
   rw [List.filter_eq_nil_iff]
   intro v hv z
   exact M.abv W hv (by rw [of_decide_eq_true z,h1]; exact hx)
  rw [CSt.nm_new,no]
  simp [nu]
theorem PutOk.idle {C:Cl} {D D':TD} {x u kd:Str} {s:Int} {rm:V} {H H':Hp} (h:PutOk C D x u kd s rm H H' D') (I:Idle D):Idle D':=by
 obtain ⟨un,c,n,rfl,hu,hc,h1,h2,h3,h4,h5,h6,h7,h8,h9,h10,h11⟩:=h
 obtain ⟨uin,une⟩:=zcc hu
 intro y hy
 rcases List.mem_append.mp hy with hy | hy
 ·rcases zfh hy with z | z
  ·rw [z]; exact I un uin
  ·exact I y z.1
 ·rw [List.mem_singleton.mp hy]; exact h5
def Deep6 (D:TD) (k:Nat):Prop:=∀ x ys,Up D.ns x ys->ys.length<=k
theorem PutOk.deep {C:Cl} {D D':TD} {x u kd:Str} {s:Int} {rm:V} {H H':Hp} {k:Nat} (h:PutOk C D x u kd s rm H H' D') (W:D.Wf) (hx:fndN D.ns x=none) (dp:Deep6 D k):Deep6 D' (k+1):=by
 obtain ⟨un,c,n,rfl,hu,hc,h1,h2,h3,h4,h5,h6,h7,h8,h9,h10,h11⟩:=h
 obtain ⟨uin,une⟩:=zcc hu
 have fs:∀ y,fndN (setN D.ns { un with ch:=some (c.1,c.2.put n.nm s) }) y=if y=un.nm then some { un with ch:=some (c.1,c.2.put n.nm s) } else fndN D.ns y:=fun y=>by
  rw [zku]
  by_cases q:y=un.nm
  ·rw [if_pos q,if_pos q,q,une,hu]; rfl
  ·rw [if_neg q,if_neg q]
 have nu:n.nm≠un.nm:=fun z=>by rw [<- h1,z,une,hu] at hx; cases hx
 have hn':fndN (setN D.ns { un with ch:=some (c.1,c.2.put n.nm s) }) n.nm=none:=by rw [fs,if_neg nu,h1]; exact hx
 have upm:∀ {z ys},Up D.ns z ys->Up (D.put un c s n).ns z ys:=fun {z ys} w=>w.mono fun z _ m hm=>by
  show ∃ n',fndN (setN D.ns _++[n]) z=some n'/\_
  rw [zkt hn',fs]
  have z1:z≠n.nm:=fun q=>by rw [q,h1,hx] at hm; cases hm
  rw [if_neg z1]
  by_cases q:z=un.nm
  ·rw [if_pos q]
   rw [q,une,hu] at hm; cases hm
   exact ⟨_,rfl,rfl⟩
  ·rw [if_neg q]; exact ⟨m,hm,rfl⟩
 intro z ys U
 obtain ⟨m,hm⟩:=U.fnd
 have hm:fndN (setN D.ns _++[n]) z=some m:=hm
 rw [zkt hn',fs] at hm
 by_cases z1:z=n.nm
 ·obtain ⟨ys0,U0,_⟩:=W.up un uin
  have U1:Up (D.put un c s n).ns n.nm (n.nm :: ys0):=.on (n:=n) (show fndN (setN D.ns _++[n]) n.nm = _ by rw [zkt hn',if_pos rfl]) (by rw [h2]) (by rw [<- une]; exact upm U0)
  rw [z1] at U
  rw [<- U1.det U]
  have:=dp _ _ U0
  rw [List.length_cons]; omega
 ·rw [if_neg z1] at hm
  have:∃ m0,fndN D.ns z=some m0:=by
   by_cases q:z=un.nm
   ·exact ⟨un,by rw [q,une]; exact hu⟩
   ·rw [if_neg q] at hm; exact ⟨m,hm⟩
  obtain ⟨m0,hm0⟩:=this
  obtain ⟨min0,me⟩:=zcc hm0
  obtain ⟨ys0,U0,_⟩:=W.up m0 min0
  rw [me] at U0
  rw [<- (upm U0).det U]
  exact Nat.le_succ_of_le (dp _ _ U0)
theorem zij (ns:List ND) (n:ND):(setN ns n).length=ns.length:=by unfold setN; rw [List.length_map]
theorem zsr {D:TD} {n:ND} (F:D.full) (nin:n∈D.ns) (bk:Option (Addr×BkS)):(D.curb n bk).full:=by
 refine ⟨by show (setN D.ns _).length<=60; rw [zij]; exact F.1,fun y hy d hd=>?_⟩
 show d.2.sz<=4*(setN D.ns _).length
 rw [zij]
 rcases zfh hy with z | z
 ·rw [z] at hd; exact F.2 n nin d hd
 ·exact F.2 y z.1 d hd
theorem zwu (m:Int) (c:CSt) (x:Str) (s:Int):(c.resh m x s).sz=c.sz:=by
 cases c with
 | st=>rfl
 | rd nm q rs tu ch =>
  show (putN nm x s).length=nm.length
  unfold putN
  rw [List.length_map]
theorem zss {D:TD} {u:ND} {c:At5×CSt} (F:D.full) (uin:u∈D.ns) (hc:u.ch=some c) (x:Str) (s:Int):(D.resh u c x s).full:=by
 refine ⟨by show (setN D.ns _).length<=60; rw [zij]; exact F.1,fun y hy d hd=>?_⟩
 show d.2.sz<=4*(setN D.ns _).length
 rw [zij]
 rcases zfh hy with z | z
 ·rw [z] at hd
  cases hd
  show (c.2.resh D.most x s).sz<=_
  rw [zwu]; exact F.2 u uin c hc
 ·exact F.2 y z.1 d hd
theorem zpr {D:TD} {n n':ND} {Pb:Addr->Prop} (nin:n∈D.ns) (hf:∀ b∈n'.foot,b∈n.foot\/Pb b):∀ b∈TD.foot { D with ns:=setN D.ns n' },b∈D.foot\/Pb b:=by
 intro b hb
 unfold TD.foot at hb
 rcases List.mem_cons.mp hb with z | hb
 ·exact .inl (z ▸ List.mem_cons_self ..)
 rcases List.mem_cons.mp hb with z | hb
 ·exact .inl (z ▸ List.mem_cons_of_mem _ (List.mem_cons_self ..))
 rcases List.mem_cons.mp hb with z | hb
 ·exact .inl (z ▸ List.mem_cons_of_mem _ (List.mem_cons_of_mem _ (List.mem_cons_self ..)))
 obtain ⟨y,hy,z⟩:=List.mem_flatMap.mp hb
 rcases zfh hy with q | q
 ·rw [q] at z
  exact (hf b z).imp (fun w=>TD.mem_node nin w) id
 ·exact .inl (TD.mem_node q.1 z)
theorem zst {D:TD} {u:ND} {c:At5×CSt} (uin:u∈D.ns) (hc:u.ch=some c) (x:Str) (s:Int):∀ b∈(D.resh u c x s).foot,b∈D.foot:=fun b hb=>by
 refine (zpr (Pb:=fun _=>False) uin (fun b hb=>.inl ?_) b hb).resolve_right id
 unfold ND.foot at hb ⊢
 rw [hc]; exact hb
theorem zsu {D:TD} {n:ND} (nin:n∈D.ns) (bk:Option (Addr×BkS)):∀ b∈(D.curb n bk).foot,b∈D.foot\/b∈bkF bk:=by
 refine zpr (Pb:=fun b=>b∈bkF bk) nin fun b hb=>?_
 unfold ND.foot at hb ⊢
 rcases List.mem_cons.mp hb with z | hb
 ·exact .inl (z ▸ List.mem_cons_self ..)
 rcases List.mem_cons.mp hb with z | hb
 ·exact .inl (z ▸ List.mem_cons_of_mem _ (List.mem_cons_self ..))
 rcases List.mem_append.mp hb with z | z
 ·exact .inl (List.mem_cons_of_mem _ (List.mem_cons_of_mem _ (List.mem_append.mpr (.inl z))))
 ·exact .inr z
structure LJ (C:Cl) (wd t:Addr) (H:Hp) (D:TD) (ws:List WE):Prop where
 O:TrOk C H D
 W:D.Wf
 F:D.full
 I:Idle D
 G:WdOk H wd ws
 M:Mt D ws
 S:MtS D ws
 nw:wd ∉ D.foot
 nq:∀ v∈ws,v.q ∉ D.foot
 p:D.p=t
 wl:ws.length<=6
 bd:∀ v∈ws,1<=v.sh/\v.sh<=1000000
theorem LJ.same {C:Cl} {wd t:Addr} {H H':Hp} {D:TD} {ws:List WE} (h:LJ C wd t H D ws) (s:Same H H'):LJ C wd t H' D ws:=⟨h.O.same s,h.W,h.F,h.I,h.G.same s,h.M,h.S,h.nw,h.nq,h.p,h.wl,h.bd⟩
structure Stp (D:TD) (ws:List WE) (wd:Addr) (H H':Hp) (D':TD) (ws':List WE):Prop where
 kp:∀ b o,b ∉ D.foot->b≠wd->b ∉ ws.map (·.q)->H b=some o->H' b=some o
 fr:∀ b,b∈D'.foot\/b∈ws'.map (·.q)->b∈D.foot\/b∈ws.map (·.q)\/H b=none
theorem zji {H H':Hp} {b:Addr} (s:Same H H') (e:H' b=none):H b=none:=by
 cases z:H b with
 | none=>rfl
 | some o=>rw [s _ _ z] at e; cases e
theorem Stp.pre {D D':TD} {ws ws':List WE} {wd:Addr} {H0 H H':Hp} (h:Stp D ws wd H H' D' ws') (s:Same H0 H):Stp D ws wd H0 H' D' ws':=⟨fun b o n1 n2 n3 e=>h.kp b o n1 n2 n3 (s _ _ e),fun b hb=>(h.fr b hb).imp id fun q=>q.imp id fun e=>zji s e⟩
theorem Stp.post {D D':TD} {ws ws':List WE} {wd:Addr} {H H1 H':Hp} (h:Stp D ws wd H H1 D' ws') (s:Same H1 H'):Stp D ws wd H H' D' ws':=⟨fun b o n1 n2 n3 e=>s _ _ (h.kp b o n1 n2 n3 e),h.fr⟩
theorem Stp.refl {D:TD} {ws:List WE} {wd:Addr} {H H':Hp} (s:Same H H'):Stp D ws wd H H' D ws:=⟨fun b o _ _ _ e=>s _ _ e,fun b hb=>hb.imp id .inl⟩
def Apart (b:Addr) (D:TD) (ws:List WE) (wd:Addr):Prop:=b ∉ D.foot/\b ∉ ws.map (·.q)/\b≠wd
theorem LJ.free {C:Cl} {wd t:Addr} {H:Hp} {D:TD} {ws:List WE} (J:LJ C wd t H D ws) {b:Addr} (e:H b=none):Apart b D ws wd:=by
 refine ⟨J.O.free e,fun z=>?_,fun z=>by rw [z,J.G.hd] at e; cases e⟩
 obtain ⟨v,hv,q⟩:=List.mem_map.mp z
 have:=J.G.ht v hv
 rw [q,e] at this; cases this
theorem Stp.keep {D D':TD} {ws ws':List WE} {wd b:Addr} {H H':Hp} {o:HO} (h:Stp D ws wd H H' D' ws') (n1:Apart b D ws wd) (e:H b=some o):H' b=some o/\Apart b D' ws' wd:=by
 have no:¬ (b∈D'.foot\/b∈ws'.map (·.q)):=fun z=>by
  rcases h.fr b z with q | q | q
  ·exact n1.1 q
  ·exact n1.2.1 q
  ·rw [e] at q; cases q
 exact ⟨h.kp b o n1.1 n1.2.2 n1.2.1 e,fun z=>no (.inl z),fun z=>no (.inr z),n1.2.2⟩
def nmL:List Str:=[Str.ofString "b", Str.ofString "a", Str.ofString "ab", Str.ofString "abc", Str.ofString "z", Str.ofString "zzzzzzzz"]
theorem zyk:∀ z∈nmL,zeo z/\z≠road:=by decide +kernel
theorem zyl:nmL.Nodup:=by decide +kernel
structure BJ (C:Cl) (wd t:Addr) (H0:Hp) (D0:TD) (i:Nat) (H:Hp) (D:TD) (ws:List WE):Prop where
 J:LJ C wd t H D ws
 n:ws.map (·.nm)=nmL.take i
 dp:Deep6 D (i+1)
 kp:Deed D0.foot H0 H
 fr:∀ b∈D.foot,b∈D0.foot\/H0 b=none
 fq:∀ v∈ws,H0 v.q=none
 tm:D.tm = 0
 ms:D.most=D0.most
 nl:D.ns.length=i+1
 ch:∀ n∈D.ns,n.ch≠none
 sub:∀ b∈D0.foot,b∈D.foot
theorem PutOk.keepf {C:Cl} {D D':TD} {x u kd:Str} {s:Int} {rm:V} {H H':Hp} (h:PutOk C D x u kd s rm H H' D') (W:D.Wf):∀ b∈D.foot,b∈D'.foot:=by
 obtain ⟨un,c,n,rfl,hu,hc,h1,h2,h3,h4,h5,h6,h7,h8,h9,h10,h11⟩:=h
 intro b hb
 unfold TD.foot at hb
 rcases List.mem_cons.mp hb with z | hb
 ·exact z ▸ List.mem_cons_self ..
 rcases List.mem_cons.mp hb with z | hb
 ·exact z ▸ List.mem_cons_of_mem _ (List.mem_cons_self ..)
 rcases List.mem_cons.mp hb with z | hb
 ·exact z ▸ List.mem_cons_of_mem _ (List.mem_cons_of_mem _ (List.mem_cons_self ..))
 obtain ⟨y,hy,z⟩:=List.mem_flatMap.mp hb
 refine TD.mem_node (D:=D.put un c s n) (x:=if y.nm=un.nm then { un with ch:=some (c.1,c.2.put n.nm s) } else y) (List.mem_append.mpr (.inl (List.mem_map.mpr ⟨y,hy,rfl⟩))) ?_
 by_cases q:y.nm=un.nm
 ·rw [if_pos q]
  have:=uniq W hy (zcc hu).1 q
  subst this
  unfold ND.foot at z ⊢
  rw [hc] at z; exact z
 ·rw [if_neg q]; exact z
theorem BJ.same {C:Cl} {wd t:Addr} {H0:Hp} {D0:TD} {i:Nat} {H H':Hp} {D:TD} {ws:List WE} (h:BJ C wd t H0 D0 i H D ws) (s:Same H H'):BJ C wd t H0 D0 i H' D ws:=⟨h.J.same s,h.n,h.dp,h.kp.trans s.deed,h.fr,h.fq,h.tm,h.ms,h.nl,h.ch,h.sub⟩
def zwv (C:Cl):Sp:=fun vs H Q _=>∃ (D:TD) (c:Int),vs = [.ref D.p,.int c]/\0<=c/\TrOk C H D/\D.Wf/\D.full/\Idle D/\D.tm = 0/\D.ns.length = 1/\∀ wd D' ws H',H wd=none->LJ C wd D.p H' D' ws->D'.tm = 0->D'.most=D.most->Deed D.foot H H'->(∀ b∈D'.foot,b∈D.foot\/H b=none)->(∀ v∈ws,H v.q=none)->Q (.ref wd) H'
theorem zub {D:TD} (W:D.Wf) (l:D.ns.length = 1):∃ n,D.ns = [n]/\n.nm=road/\n.ab=none:=by
 obtain ⟨n,r,e,h1,h2,_⟩:=W.rd
 rw [e,List.length_cons] at l
 have:r = []:=List.eq_nil_of_length_eq_zero (by omega)
 exact ⟨n,by rw [e,this],h1,h2⟩
theorem znk (T:Txt K mg c_WheelError c_NoName c_Taken c_NoClass c_NoPlace c_NoShare c_NoCurb c_NoLength c_TooEarly c_Bucket c_Members c_Chooser c_Starts c_Rounds c_Node c_Tree):Def P w K mg base (CXX P w) 8 "_law_built" ["_law_tree", "_law_cell"] (zwv (⟨c_Node,c_Starts,c_Rounds,c_Members,c_Bucket,c_Tree⟩:Cl)):=by
 have M_Tree_put:=zqk (P:=P) (w:=w) (base:=base) T
 refine T.src__law_built.okN (k:=7) sc__law_built (fun vs H Q E h=>?_) (fun f cdv A outer s H vs Q E hr h=>?_)
 ·obtain ⟨D,c,rfl,_⟩:=h
  rfl
 ·obtain ⟨D0,c,rfl,c0,O,W,F,I,tm0,nl0,k⟩:=h
  refine ⟨_,(zad (zbd (i:=2) sc__law_built.nd rfl (by first|left;rfl|right;rfl) zgb) (zad (zon PassesOwn.never rfl (zls rfl T.no_range (zaa (pe_op zcm (pv 1) zah) zag)) (zfn (i:=3) sc__law_built.nd rfl (by first|left;rfl|right;rfl)) (zad (zbd (i:=4) sc__law_built.nd rfl (by first|left;rfl|right;rfl) (pe_op zui (zdy (zaa zaq zag)) (zig (zih K rfl) (zlz (zkh rfl) rfl T.no_list boot_list (zaa (pv 2) zag)) (zis (pe_un zlu zah)) zno))) (zad (zbd (i:=5) sc__law_built.nd rfl (by first|left;rfl|right;rfl) (pe_ix (zaz K rfl) (pv 4) (pe_op zcm (pe_op zfo (pv 1) (pe_op zeu zah (pe_op zhj (pv 3) (pv 3)))) (zck (zfv K rfl) rfl T.no_len boot_len (zaa (pv 4) zag))) (fun _ _=>rfl))) (zad (ps_if (zay op_eq (pv 3) zah (zbc _)) (zaf (zbd (i:=5) sc__law_built.nd rfl (by first|left;rfl|right;rfl) zaq)) zaw) (zad (zbd (i:=6) sc__law_built.nd rfl (by first|left;rfl|right;rfl) (pe_ix (zaz K rfl) (zdy (zaa zaq (zaa zaq (zaa zaq (zaa zaq (zaa zaq (zaa zaq zag))))))) (pv 3) (fun _ _=>rfl))) (zad (zbd (i:=7) sc__law_built.nd rfl (by first|left;rfl|right;rfl) (pe_op zeu zah (pe_op zcm (pe_op zfo (pv 1) (pe_op zeu zah (pv 3))) (pe_ix (zaz K rfl) (zdy (zaa (pe_op zev zah zah) (zaa zah zag))) (pe_op zcm (pv 3) zah) (fun _ _=>rfl))))) (zad (zbg (zap (dvs:=[V.non]) M_Tree_put (by simp) T.cl_Tree (hr.mono (by decide)) passN (pv 0) (zaa (pv 6) (zaa (pv 5) (zaa (pe_ix (zaz K rfl) (zdy (zaa zaq (zaa zaq zag))) (pe_op zcm (pe_op zfo (pv 1) (pe_op zeu zah (pv 3))) zah) (fun _ _=>rfl)) (zaa (pv 7) zag)))))) (zaf (zfx (hu_of hr) (pv 2) (pv 6) (zdy (zaa (pv 5) (zaa (pv 7) (zaa pe_bl zag)))) rfl))))))))) (zaf (zax (pv 2))))),?_⟩
  show tSeq _ _ _ [some (.ref D0.p),some (.int c),none,none,none,none,none,none] H
  refine zae fun R hR=>?_
  walk_at "rd"
  intro wd hwd
  refine hR _ _ ?_
  clear hR
  obtain ⟨rn,en,rn1,rn2⟩:=zub W nl0
  have s1:=zak (o:=.dK []) hwd
  have B0:BJ (⟨c_Node,c_Starts,c_Rounds,c_Members,c_Bucket,c_Tree⟩:Cl) wd D0.p H D0 0 (upd H wd (.dK [])) D0 []:=by
   refine ⟨⟨O.same s1,W,F,I,⟨zac,fun v hv=>absurd hv List.not_mem_nil,.nil⟩,⟨rn,[],en,.nil⟩,fun u hu d hd=>?_,O.free hwd,fun v hv=>absurd hv List.not_mem_nil,rfl,Nat.zero_le _,fun v hv=>absurd hv List.not_mem_nil⟩,rfl,fun x ys U=>?_,s1.deed,fun b hb=>.inl hb,fun v hv=>absurd hv List.not_mem_nil,tm0,rfl,nl0,?_,fun b hb=>hb⟩
   ·have:=W.kid u hu d hd
    have kd:kids D0.ns u.nm = []:=by
     rw [en]; unfold kids
     simp [rn2]
    rw [kd] at this
    exact List.map_eq_nil_iff.mp this
   ·obtain ⟨m,hm⟩:=U.fnd
    have mm:=(zcc hm).1
    rw [en,List.mem_singleton] at mm
    cases U with
    | top h1 h2=>simp
    | on h1 h2 h3=>rw [hm] at h1; cases h1; rw [mm,rn2] at h2; cases h2
   ·intro n hn
    obtain ⟨r,t,e,_,_,e3⟩:=W.rd
    rw [en] at hn e
    cases e
    rw [List.mem_singleton.mp hn]; exact e3
  refine (show tSeq _ _ _ [some (.ref D0.p),some (.int c),some (.ref wd),none,none,none,none,none] (upd H wd (.dK [])) from ?_)
  generalize upd H wd (.dK [])=H1 at s1 B0 ⊢
  refine zae fun R hR=>?_
  refine zii fun Z hZ=>?_
  walk_at "rd"
  have c7:=Int.emod_nonneg c (show (7:Int)≠0 by decide)
  have c8:=Int.emod_lt_of_pos c (show (0:Int)<7 by decide)
  refine ⟨by omega,by omega,hZ _ _ ?_⟩
  clear hZ
  refine zlt (fun i σ H'=>∃ v3 v4 v5 v6 v7 D ws,σ = [some (.ref D0.p),some (.int c),some (.ref wd),v3,v4,v5,v6,v7]/\BJ (⟨c_Node,c_Starts,c_Rounds,c_Members,c_Bucket,c_Tree⟩:Cl) wd D0.p H D0 i H' D ws) ⟨none,none,none,none,none,D0,[],rfl,B0⟩ ?_ ?_
  ·rintro i σ H2 hi ⟨v3,v4,v5,v6,v7,D,ws,rfl,B⟩
   have i6:i<6:=by omega
   show tSeq _ _ _ [some (.ref D0.p),some (.int c),some (.ref wd),some (.int (0+(i:Int))),v4,v5,v6,v7] H2
   rw [Int.zero_add]
   refine znw fun N hN=>?_
   refine zae fun R hR=>?_
   walk_at "rd"
   intro p1 f1
   have s1:=zak (o:=.lst [.str (Str.ofString "road")]) f1
   refine ⟨wd,_,rfl,s1 _ _ B.J.G.hd,fun p2 f2=>zow (.of zac) fun p3 f3=>?_⟩
   have ek:((weK ws).map fun kv=>kV kv.1)=(ws.map (·.nm)).map V.str:=by
    unfold weK
    rw [List.map_map,List.map_map]; rfl
   rw [ek] at f3 ⊢
   obtain ⟨ms,em,ml,mm⟩:=zsq (ws.map (·.nm)) (some (-4)) none
   rw [em]
   have s2:=s1.trans (zak (o:=.lst ((ws.map (·.nm)).map V.str)) f2)
   have s3:=s2.trans (zak (o:=.lst (ms.map V.str)) f3)
   have h1:=zak (o:=.lst (ms.map V.str)) f3 _ _ (zak (o:=.lst ((ws.map (·.nm)).map V.str)) f2 p1 _ zac)
   rw [List.length_map] at ml
   have wl:=B.J.wl
   refine ⟨p1,p3,_,_,rfl,rfl,h1,zac,zkw (by rw [List.length_map]; simp only [List.length_cons,List.length_nil]; omega),fun p4 f4=>hR _ _ ?_⟩
   clear hR
   have s4:=s3.trans (zak (o:=.lst ([.str (Str.ofString "road")]++ms.map V.str)) f4)
   have h4:upd (upd (upd (upd H2 p1 (.lst [.str (Str.ofString "road")])) p2 (.lst ((ws.map (·.nm)).map V.str))) p3 (.lst (ms.map V.str))) p4 (.lst ([.str (Str.ofString "road")]++ms.map V.str)) p4=some (.lst ((road :: ms).map V.str)):=zac
   refine (show tSeq _ _ _ [some (.ref D0.p),some (.int c),some (.ref wd),some (.int (i:Int)),some (.ref p4),v5,v6,v7] (upd (upd (upd (upd H2 p1 (.lst [.str (Str.ofString "road")])) p2 (.lst ((ws.map (·.nm)).map V.str))) p3 (.lst (ms.map V.str))) p4 (.lst ([.str (Str.ofString "road")]++ms.map V.str))) from ?_)
   generalize upd (upd (upd (upd H2 p1 (.lst [.str (Str.ofString "road")])) p2 (.lst ((ws.map (·.nm)).map V.str))) p3 (.lst (ms.map V.str))) p4 (.lst ([.str (Str.ofString "road")]++ms.map V.str))=H4 at s4 h4 ⊢
   have B:=B.same s4
   clear s1 s2 s3 s4 f1 f2 f3 f4 h1
   refine zae fun R hR=>?_
   walk_at "rd"
   have zi:Sw.Sz 5000 (i:Int):=Sw.Sz.lit (by omega)
   have zc:∀ d:Int,0<d->d<100->CDivL c d:=fun d h0 h1=>⟨h0,Sw.Sz.lit (by omega)⟩
   have ii:0<=(i:Int)*(i:Int)/\(i:Int)*(i:Int)<=25:=⟨Int.mul_nonneg (by omega) (by omega),Int.le_trans (Int.mul_le_mul (show (i:Int)<=5 by omega) (show (i:Int)<=5 by omega) (by omega) (by omega)) (by decide)⟩
   refine ⟨⟨zi,zi⟩,zc _ (by omega) (by omega),zov (.of h4) ⟨_,rfl,?_⟩⟩
   rw [List.length_map]
   have ln:0<(((road :: ms).length:Nat):Int):=by rw [List.length_cons]; omega
   refine ⟨ln,ixW h4 (Int.emod_nonneg _ (by omega)) (Int.emod_lt_of_pos _ ln) fun ab hab=>hR _ _ ?_⟩
   clear hR h4
   have hab:ab=road\/∃ v∈ws,v.nm=ab:=by
    rcases List.mem_cons.mp hab with z | z
    ·exact .inl z
    ·obtain ⟨v,hv,e⟩:=List.mem_map.mp (mm ab z)
     exact .inr ⟨v,hv,e⟩
   refine zae fun R hR=>?_
   have post:∀ ab:Str,(ab=road\/(i<5/\∃ v∈ws,v.nm=ab))->R [some (.ref D0.p),some (.int c),some (.ref wd),some (.int (i:Int)),some (.ref p4),some (.str ab),v6,v7] H4:=fun ab hab=>hR _ _ (by
    clear hR
    refine zae fun R hR=>?_
    walk_at "rd"
    intro p5 f5
    have s5:=zak (o:=.lst (nmL.map V.str)) f5
    have il:i<nmL.length:=i6
    refine zgj (.of zac) (zhi (xs:=nmL.map V.str) (j:=i) (v:=V.str (nmL[i]'il)) (by simp)) (hR _ _ ?_)
    clear hR
    obtain ⟨nok,nroad⟩:=zyk _ (List.getElem_mem il)
    generalize ez:nmL[i]'il=z at nok nroad ⊢
    have zin:z ∉ ws.map (·.nm):=fun q=>by
     rw [B.n] at q
     obtain ⟨j,hj,e⟩:=List.mem_iff_getElem.mp q
     rw [List.length_take] at hj
     rw [List.getElem_take,<- ez] at e
     have:=(List.getElem_inj zyl).mp e
     omega
    have B5:=B.same s5
    refine (show tSeq _ _ _ [some (.ref D0.p),some (.int c),some (.ref wd),some (.int (i:Int)),some (.ref p4),some (.str ab),some (.str z),v7] (upd H4 p5 (.lst (nmL.map V.str))) from ?_)
    generalize upd H4 p5 (.lst (nmL.map V.str))=H5 at B5 ⊢
    refine zae fun R hR=>?_
    walk_at "rd"
    refine ⟨zc _ (by omega) (by omega),fun p6 f6=>?_⟩
    have s6:=zak (o:=.lst [.int 1000000,.int 9]) f6
    have B6:=B5.same s6
    refine pickV [_,_] (Int.emod_nonneg _ (by decide)) (Int.emod_lt_of_pos _ (by decide)) fun sv hsv=>?_
    obtain ⟨m,rfl,m0,m1⟩:∃ m:Int,sv = .int m/\0<m/\m<=1000000:=by
     simp only [List.mem_cons,List.not_mem_nil,or_false] at hsv
     rcases hsv with q | q
     ·exact ⟨_,q,by decide,by decide⟩
     ·exact ⟨_,q,by decide,by decide⟩
    refine ⟨_,rfl,m0,hR _ _ ?_⟩
    clear hR
    have sh0:=Int.emod_nonneg (c / (11+(i:Int))) (show m≠0 by omega)
    have sh1:=Int.emod_lt_of_pos (c / (11+(i:Int))) m0
    generalize c / (11+(i:Int)) % m=y at sh0 sh1 ⊢
    refine (show tSeq _ _ _ [some (.ref D0.p),some (.int c),some (.ref wd),some (.int (i:Int)),some (.ref p4),some (.str ab),some (.str z),some (.int (1+y))] (upd H5 p6 (.lst [.int 1000000,.int 9])) from ?_)
    generalize upd H5 p6 (.lst [.int 1000000,.int 9])=H6 at B6 ⊢
    refine zae fun R hR=>?_
    walk_at "rd"
    obtain ⟨dx,fs,hp,ft⟩:=B6.J.O.ex
    rw [B6.J.p] at hp
    refine zav hp (ft.mis _ (by decide +kernel) (by decide +kernel) (by decide +kernel) (by decide +kernel) (by decide +kernel) (by decide +kernel)) fun p7 f7=>⟨zc _ (by omega) (by omega),?_⟩
    have s7:=zak (o:=.lst [V.str (Str.ofString "starts"),V.str (Str.ofString "rounds")]) f7
    refine ixW (ks:=[Str.ofString "starts", Str.ofString "rounds"]) zac (Int.emod_nonneg _ (by decide)) (Int.emod_lt_of_pos _ (by decide)) fun kd hkd=>?_
    have okd:Inner kd:=by
     simp only [List.mem_cons,List.not_mem_nil,or_false] at hkd
     exact hkd
    have B7:=B6.same s7
    generalize upd H6 p7 (.lst [V.str (Str.ofString "starts"),V.str (Str.ofString "rounds")])=H7 at B7 ⊢
    have J7:=B7.J
    have fz:fndN D.ns z=none:=by
     rcases J7.M.fnd J7.W nroad with ⟨q,_⟩ | ⟨_,v,_,q,_⟩
     ·exact q
     ·obtain ⟨q1,q2⟩:=zel q
      exact absurd (List.mem_map.mpr ⟨v,q1,q2⟩) zin
    have wz:wfn ws z=none:=by
     cases q:wfn ws z with
     | none=>rfl
     | some v =>
      obtain ⟨q1,q2⟩:=zel q
      exact absurd (List.mem_map.mpr ⟨v,q1,q2⟩) zin
    obtain ⟨nr,hnr,har,hcr⟩:=J7.W.rdN
    obtain ⟨un,hun,hcu,dpu⟩:∃ un,fndN D.ns ab=some un/\un.ch≠none/\∀ ys,Up D.ns ab ys->ys.length<=5:=by
     rcases hab with q | ⟨q,v,hv,e⟩
     ·rw [q]
      have Ur:Up D.ns road [road]:=.top hnr har
      exact ⟨nr,hnr,hcr,fun ys U=>by rw [<- Ur.det U]; simp⟩
     ·obtain ⟨_,n,q1,_⟩:=J7.M.inn J7.W (zuy (J7.M.nd J7.W) hv)
      rw [e] at q1
      exact ⟨n,q1,B7.ch n (zcc q1).1,fun ys U=>Nat.le_trans (B7.dp _ _ U) (by omega)⟩
    have du:dueP D z ab kd (1+y) .non=none:=zpl nok fz hun ⟨.inr okd,hcu,dpu⟩ ⟨by omega,by omega⟩ fun ⟨_,r,e,_⟩=>by cases e
    have so:=zpq nok
    refine ⟨D,z,ab,kd,1+y,.non,by rw [J7.p],J7.O,J7.W,J7.F.fit,⟨so.1,by have:=so.2; omega⟩,.inl rfl,fun r e=>(by rw [du] at e; cases e),fun _ un' c' n' H8 h1 h2 h3 h4 h5 h6 h7 h8 h9 h10 h11 h12 h13=>hR _ _ ?_⟩
    clear hR
    have PO:PutOk (⟨c_Node,c_Starts,c_Rounds,c_Members,c_Bucket,c_Tree⟩:Cl) D z ab kd (1+y) .non H7 H8 (D.put un' c' (1+y) n'):=⟨un',c',n',rfl,h1,h2,h3,h4,h5,h6,h7,h8,h9,h10,h11,h12,h13⟩
    have W':=PO.wf J7.W du
    have F':=PO.full (.inr okd) J7.F (by rw [B7.nl]; omega)
    have I':=PO.idle J7.I
    have ft':=PO.foot
    have ln':=PO.len
    have dp':=PO.deep J7.W fz B7.dp
    have hch:∀ n∈(D.put un' c' (1+y) n').ns,n.ch≠none:=fun n hn=>by
     rcases List.mem_append.mp hn with q | q
     ·rcases zfh q with q | q
      ·rw [q]; simp
      ·exact B7.ch n q.1
     ·rw [List.mem_singleton.mp q]
      obtain ⟨a,e⟩:=h10 okd
      rw [e]; simp
    have hpp:(D.put un' c' (1+y) n').p=D0.p:=J7.p
    have htm:(D.put un' c' (1+y) n').tm = 0:=B7.tm
    have hms:(D.put un' c' (1+y) n').most=D0.most:=B7.ms
    generalize D.put un' c' (1+y) n'=D' at PO W' F' I' ft' ln' dp' hch hpp htm hms h12
    have nof:∀ {b o},b ∉ D.foot->H7 b=some o->b ∉ D'.foot:=fun {b o} n e q=>by
     rcases ft' b q with q | q
     ·exact n q
     ·rw [e] at q; cases q
    walk_at "rd"
    intro p9 f9
    have s9:=zak (o:=.lst [.str ab,.int (1+y),.bl false]) f9
    have G8:WdOk H8 wd ws:=⟨h13 _ _ J7.nw J7.G.hd,fun v hv=>h13 _ _ (J7.nq v hv) (J7.G.ht v hv),J7.G.nd⟩
    have G9:=G8.same s9
    have O9:=h12.same s9
    have ht9:upd H8 p9 (.lst [.str ab,.int (1+y),.bl false]) p9=some (weL ⟨z,p9,ab,1+y,false⟩):=zac
    generalize upd H8 p9 (.lst [.str ab,.int (1+y),.bl false])=H9 at s9 G9 O9 ht9 ⊢
    have lk:(weK ws).length=ws.length:=List.length_map _
    have wl:=J7.wl
    refine ⟨_,DPut.k (k:=Sum.inr z) G9.hd (line_lt (by omega)),hN _ _ ?_⟩
    have ek:=zwt (w:=⟨z,p9,ab,1+y,false⟩) wz
    rw [ek]
    have kp:∀ b o,b≠wd->H9 b=some o->upd H9 wd (.dK (weK (ws++[⟨z,p9,ab,1+y,false⟩]))) b=some o:=fun b o n e=>by rw [zai n]; exact e
    have nwd:wd ∉ D'.foot:=nof J7.nw J7.G.hd
    have mem:∀ v,v∈ws++[⟨z,p9,ab,1+y,false⟩]->v∈ws\/v = ⟨z,p9,ab,1+y,false⟩:=fun v hv=>(List.mem_append.mp hv).imp id List.mem_singleton.mp
    have lw:∀ {b xs},H9 b=some (.lst xs)->b≠wd:=fun {b xs} e q=>by rw [q,G9.hd] at e; cases e
    have H0n:∀ {b},H8 b=none->H b=none:=fun {b} e=>by
     cases q:H b with
     | none=>rfl
     | some o =>
      exfalso
      by_cases r:b∈D.foot
      ·obtain ⟨o',ho',_⟩:=h12.at (PO.keepf J7.W b r)
       rw [e] at ho'; cases ho'
      ·have q7:=B7.kp b o ?_ q
       ·rw [h13 b o r q7] at e; cases e
       ·intro r0
        exact r (B7.sub b r0)
    refine ⟨_,_,_,_,_,D',ws++[⟨z,p9,ab,1+y,false⟩],rfl,⟨O9.other nwd G9.hd (by intro _ q; cases q),W',F',I',⟨zac,fun v hv=>?_,?_⟩,PO.mt J7.M J7.W p9,PO.mts okd fz J7.M J7.S J7.W p9,nwd,fun v hv=>?_,hpp,?_,fun v hv=>?_⟩,?_,dp',fun b o n e=>?_,fun b hb=>?_,fun v hv=>?_,htm,hms,by rw [ln',B7.nl],hch,fun b hb=>PO.keepf J7.W b (B7.sub b hb)⟩
    ·rcases mem v hv with q | q
     ·exact kp _ _ (lw (G9.ht v q)) (G9.ht v q)
     ·rw [q]; exact kp _ _ (lw ht9) ht9
    ·rw [List.map_append,List.nodup_append]
     refine ⟨J7.G.nd,by simp,fun a ha b hb e=>?_⟩
     rw [List.map_cons,List.map_nil,List.mem_singleton] at hb
     obtain ⟨v,hv,e2⟩:=List.mem_map.mp ha
     have:=G8.ht v hv
     rw [e2,e,hb,f9] at this; cases this
    ·rcases mem v hv with q | q
     ·exact nof (J7.nq v q) (J7.G.ht v q)
     ·rw [q]; exact h12.free f9
    ·rw [List.length_append]; show ws.length+1<=6
     have:=congrArg List.length B7.n
     rw [List.length_map,List.length_take] at this
     omega
    ·rcases mem v hv with q | q
     ·exact J7.bd v q
     ·rw [q]; exact ⟨by show 1<=1+y; omega,by show 1+y<=1000000; omega⟩
    ·rw [List.map_append,B7.n,List.take_succ_eq_append_getElem il,ez]; rfl
    ·have nf:b ∉ D.foot:=fun q=>by
      rcases B7.fr b q with r | r
      ·exact n r
      ·rw [e] at r; cases r
     have bw:b≠wd:=zao e hwd
     exact kp _ _ bw (s9 _ _ (h13 _ _ nf (B7.kp b o n e)))
    ·rcases ft' b hb with q | q
     ·exact B7.fr b q
     ·by_cases r:b∈D0.foot
      ·exact .inl r
      ·right
       cases e:H b with
       | none=>rfl
       | some o=>rw [B7.kp b o r e] at q; cases q
    ·rcases mem v hv with q | q
     ·exact B7.fq v q
     ·rw [q]; exact H0n f9
    )
   clear hR
   walk_at "rd"
   refine ite2 (fun c5=>post road (.inl rfl)) fun c5=>post ab (hab.imp id fun z=>⟨by omega,z⟩)
  ·rintro σ H2 ⟨v3,v4,v5,v6,v7,D,ws,rfl,B⟩
   refine hR _ _ ?_
   walk_at "rd"
   exact k wd D ws H2 hwd B.J B.tm B.ms B.kp B.fr B.fq
theorem pickS {K:PySem.W.Frag} {H:Hp} {p:Addr} {i:Int} {Q:VK} (xs:List V) (f:H p=none) (h0:0<=i) (h1:i<xs.length) (k:∀ v∈xs,∀ H',Same H H'->Q v H'):rIxL K (.ref p) (.int i) (upd H p (.lst xs)) Q:=pickV xs h0 h1 fun v hv=>k v hv _ (zak f)
theorem WdOk.deed {S:List Addr} {H H':Hp} {wd:Addr} {ws:List WE} (h:WdOk H wd ws) (d:Deed S H H') (n1:wd ∉ S) (n2:∀ v∈ws,v.q ∉ S):WdOk H' wd ws:=⟨d _ _ n1 h.hd,fun v hv=>d _ _ (n2 v hv) (h.ht v hv),h.nd⟩
theorem zhh {ws:List WE} {w1 v:WE} (h:v∈setW ws w1):v=w1\/v∈ws:=by
 unfold setW at h
 obtain ⟨y,hy,e⟩:=List.mem_map.mp h
 split at e
 ·exact .inl e.symm
 ·exact .inr (e ▸ hy)
theorem zps (ws:List WE) (w1:WE):(setW ws w1).length=ws.length:=by unfold setW; rw [List.length_map]
section
variable {C:Cl} {wd t:Addr} {H H':Hp} {D:TD} {ws:List WE} {x:Str} {w0:WE}
theorem LJ.row (J:LJ C wd t H D ws) (hx:wfn ws x=some w0) {w1:WE} (e:w1.nm=w0.nm) (eq:w1.q=w0.q):TrOk C (upd H w0.q (weL w1)) D/\WdOk (upd H w0.q (weL w1)) wd (setW ws w1):=by
 obtain ⟨win,wn⟩:=zel hx
 exact ⟨J.O.other (J.nq w0 win) (J.G.ht w0 win) (by intro _ z; cases z),J.G.row win e eq fun v hv z=>uniqW J.M J.W hx v hv (z.trans wn)⟩
theorem LJ.stp (J:LJ C wd t H D ws) (hx:wfn ws x=some w0) {w1:WE} (eq:w1.q=w0.q) {D':TD} (d:Deed D.foot (upd H w0.q (weL w1)) H') (fr:∀ b∈D'.foot,b∈D.foot\/H b=none):Stp D ws wd H H' D' (setW ws w1):=by
 obtain ⟨win,wn⟩:=zel hx
 have m0:w0.q∈ws.map (·.q):=List.mem_map.mpr ⟨w0,win,rfl⟩
 refine ⟨fun b o n1 n2 n3 e=>d b o n1 (by rw [zai (fun z:b=w0.q=>n3 (by rw [z]; exact m0))]; exact e),fun b hb=>?_⟩
 rcases hb with z | z
 ·exact (fr b z).imp id .inr
 ·obtain ⟨v,hv,e⟩:=List.mem_map.mp z
  refine .inr (.inl ?_)
  rcases zhh hv with q | q
  ·rw [<- e,q,eq]; exact m0
  ·exact List.mem_map.mpr ⟨v,q,e⟩
theorem LJ.resh (J:LJ C wd t H D ws) (hx:wfn ws x=some w0) {s:Int} (s0:1<=s/\s<=1000000) {n un:ND} {c:At5×CSt} (h1:fndN D.ns x=some n) (h2:n.ab=some un.nm) (h3:un∈D.ns) (h4:un.ch=some c) (h5:shOf c.2.nm x≠none) (h6:TrOk C H' (D.resh un c x s)) (h7:Deed D.foot (upd H w0.q (weL { w0 with sh:=s })) H'):LJ C wd t H' (D.resh un c x s) (setW ws { w0 with sh:=s })/\Stp D ws wd H H' (D.resh un c x s) (setW ws { w0 with sh:=s }):=by
 obtain ⟨win,wn⟩:=zel hx
 have fr:=zst h3 h4 x s
 obtain ⟨O1,G1⟩:=J.row hx (w1:={ w0 with sh:=s }) rfl rfl
 obtain ⟨nr,n',hn',nw⟩:=J.M.inn J.W hx
 rw [h1] at hn'
 cases hn'
 have eu:un.nm=w0.ab:=by rw [nw.ab] at h2; exact (Option.some.inj h2).symm
 have un':∀ v∈ws,v.nm=w0.nm->v=w0:=fun v hv z=>uniqW J.M J.W hx v hv (z.trans wn)
 have nq:∀ v∈setW ws { w0 with sh:=s },v.q ∉ D.foot:=fun v hv=>by
  rcases zhh hv with q | q
  ·rw [q]; exact J.nq w0 win
  ·exact J.nq v q
 have S':MtS (D.resh un c x s) (setW ws { w0 with sh:=s }):=wn ▸ J.S.resh J.W h3 h4 eu win un' s
 refine ⟨⟨h6,J.W.resh h3 h4 h5 s0.1 s0.2,zss J.F h3 h4 x s,J.I.resh h3 c x s,G1.deed h7 J.nw nq,J.M.resh J.W h3 hx s,S',fun z=>J.nw (fr _ z),fun v hv z=>nq v hv (fr _ z),J.p,by rw [zps]; exact J.wl,fun v hv=>?_⟩,J.stp hx (w1:={ w0 with sh:=s }) rfl h7 fun b hb=>.inl (fr b hb)⟩
 rcases zhh hv with q | q
 ·rw [q]; exact s0
 ·exact J.bd v q
theorem LJ.curb (J:LJ C wd t H D ws) (hx:wfn ws x=some w0) {n:ND} {bk:Option (Addr×BkS)} {b:Bool} (hb:bk.isSome=b) (h1:fndN D.ns x=some n) (h0:∀ y,bk=some y->H y.1=none) (h6:TrOk C H' (D.curb n bk)) (h7:Deed D.foot (upd H w0.q (weL { w0 with cu:=b })) H'):LJ C wd t H' (D.curb n bk) (setW ws { w0 with cu:=b })/\Stp D ws wd H H' (D.curb n bk) (setW ws { w0 with cu:=b }):=by
 subst hb
 obtain ⟨win,wn⟩:=zel hx
 obtain ⟨nin,ne⟩:=zcc h1
 have fr:=zsu nin bk
 have bn:∀ y∈bkF bk,H y=none:=fun y hy=>by
  cases e:bk with
  | none=>rw [e] at hy; cases hy
  | some z=>rw [e] at hy; rw [List.mem_singleton.mp hy]; exact h0 z e
 obtain ⟨O1,G1⟩:=J.row hx (w1:={ w0 with cu:=bk.isSome }) rfl rfl
 have un':∀ v∈ws,v.nm=w0.nm->v=w0:=fun v hv z=>uniqW J.M J.W hx v hv (z.trans wn)
 have nq:∀ v∈setW ws { w0 with cu:=bk.isSome },v.q ∉ D.foot/\∃ o,H v.q=some o:=fun v hv=>by
  rcases zhh hv with q | q
  ·rw [q]; exact ⟨J.nq w0 win,_,J.G.ht w0 win⟩
  ·exact ⟨J.nq v q,_,J.G.ht v q⟩
 have no:∀ {y o},y ∉ D.foot->H y=some o->y ∉ (D.curb n bk).foot:=fun {y o} h e z=>by
  rcases fr y z with q | q
  ·exact h q
  ·rw [bn y q] at e; cases e
 refine ⟨⟨h6,J.W.curb nin bk,zsr J.F nin bk,J.I.curb nin bk,G1.deed h7 J.nw fun v hv=>(nq v hv).1,J.M.curb J.W h1 hx bk,J.S.curb nin un' bk _,no J.nw J.G.hd,fun v hv=>?_,J.p,by rw [zps]; exact J.wl,fun v hv=>?_⟩,J.stp hx (w1:={ w0 with cu:=bk.isSome }) rfl h7 fun b hb=>(fr b hb).imp id (bn b)⟩
 ·obtain ⟨q1,o,q2⟩:=nq v hv
  exact no q1 q2
 ·rcases zhh hv with q | q
  ·rw [q]; exact J.bd w0 win
  ·exact J.bd v q
end
def zym (C:Cl):Sp:=fun vs H Q _=>∃ (wd t l:Addr) (D:TD) (ws:List WE) (x:Str) (xs:List Int),vs = [.ref t,.ref wd,.str x,.ref l]/\LJ C wd t H D ws/\H l=some (.lst (xs.map V.int))/\8<=xs.length/\(∀ y∈xs,0<=y)/\∀ D' ws' H',LJ C wd t H' D' ws'->Stp D ws wd H H' D' ws'->Q (.bl true) H'
theorem zol (T:Txt K mg c_WheelError c_NoName c_Taken c_NoClass c_NoPlace c_NoShare c_NoCurb c_NoLength c_TooEarly c_Bucket c_Members c_Chooser c_Starts c_Rounds c_Node c_Tree):Def P w K mg base (CXX P w) 9 "_law_deed" ["_law_tree", "_law_world", "_law_name", "_law_xs"] (zym (⟨c_Node,c_Starts,c_Rounds,c_Members,c_Bucket,c_Tree⟩:Cl)):=by
 have D__law_share:=zni (P:=P) (w:=w) (base:=base) T
 have D__law_curb:=zoi (P:=P) (w:=w) (base:=base) T
 have D__law_uncurb:=zlm (P:=P) (w:=w) (base:=base) T
 refine T.src__law_deed.okN (k:=8) sc__law_deed (fun vs H Q E h=>?_) (fun f cdv A outer s H vs Q E hr h=>?_)
 ·obtain ⟨wd,t,l,D,ws,x,xs,rfl,_⟩:=h
  rfl
 ·obtain ⟨wd,t,l,D,ws,x,xs,rfl,J,hl,lx,px,k⟩:=h
  refine ⟨_,(zad (zbd (i:=4) sc__law_deed.nd rfl (by first|left;rfl|right;rfl) (zuc (zpd (hu_of hr) (pv 2) (pv 1)))) (zad (ps_if (zay op_eq (pe_op zcm (pe_ix (zaz K rfl) (pv 3) zah (fun _ _=>rfl)) zah) zah (zbc _)) (zad (zbd (i:=5) sc__law_deed.nd rfl (by first|left;rfl|right;rfl) (pe_ix (zaz K rfl) (zdy (zaa (pe_op zeu zah (pe_op zcm (pe_ix (zaz K rfl) (pv 3) zah (fun _ _=>rfl)) (pe_op zev zah zah))) (zaa zah (zaa (pe_op zue (pe_un zlu zah) (pe_op zcm (pe_ix (zaz K rfl) (pv 3) zah (fun _ _=>rfl)) zah)) (zaa (pe_op zev zah zah) (zaa (pe_op zeu (pe_op zeu (pe_op zev zah zah) zah) (pe_op zcm (pe_ix (zaz K rfl) (pv 3) zah (fun _ _=>rfl)) zah)) (zaa (pe_op zeu zah (pe_op zcm (pe_ix (zaz K rfl) (pv 3) zah (fun _ _=>rfl)) zah)) zag))))))) (pe_op zcm (pe_ix (zaz K rfl) (pv 3) zah (fun _ _=>rfl)) zah) (fun _ _=>rfl))) (zad (zbd (i:=6) sc__law_deed.nd rfl (by first|left;rfl|right;rfl) zaq) (zad (ps_if (zhy (pv 4)) (zad (zbd (i:=6) sc__law_deed.nd rfl (by first|left;rfl|right;rfl) zaq) (zaf (ps_if (PW.pt (zil (zay op_le zah (pv 5) (zbc _)) (zik (zay op_le (pv 5) (pe_op zev zah zah) (zbc _))))) (zad (zbd (i:=6) sc__law_deed.nd rfl (by first|left;rfl|right;rfl) zaq) (zaf (zqt (pv 5) (zqs (zdk (hu_of hr) (pv 1) (pv 2) (fun _ _=>rfl)) zah zkm)))) zaw))) zaw) (zaf (zax (zei op_eq (zba D__law_share (hr.mono (by decide)) rfl passN (zaa (pv 0) (zaa (pv 2) (zaa (pv 5) zag)))) (pv 6) (zbc _))))))) zaw) (zad (ps_if (zay op_eq (pe_op zcm (pe_ix (zaz K rfl) (pv 3) zah (fun _ _=>rfl)) zah) zah (zbc _)) (zad (zbd (i:=7) sc__law_deed.nd rfl (by first|left;rfl|right;rfl) (pe_ix (zaz K rfl) (zdy (zaa (zbe (pv 0) rfl) (zaa (pe_op zue (zbe (pv 0) rfl) zah) (zaa (pe_op zev zah zah) (zaa (pe_op zeu (pe_op zev zah zah) zah) (zaa (pe_op zeu (zbe (pv 0) rfl) (pe_op zcm (pe_ix (zaz K rfl) (pv 3) zah (fun _ _=>rfl)) (pe_op zev zah zah))) (zaa zah zag))))))) (pe_op zcm (pe_ix (zaz K rfl) (pv 3) zah (fun _ _=>rfl)) zah) (fun _ _=>rfl))) (zad (zbd (i:=8) sc__law_deed.nd rfl (by first|left;rfl|right;rfl) (pe_ix (zaz K rfl) (zdy (zaa (zgi (zaa zah (zaa zah zag))) (zaa (zgi (zaa (pe_un zlu zah) (zaa zah zag))) (zaa (zgi (zaa zah (zaa (pe_op zev zah zah) zag))) (zaa (zgi (zaa zah (zaa zah zag))) (zaa (zgi (zaa (pe_op zev zah zah) (zaa zah zag))) (zaa (zgi (zaa zah (zaa zah zag))) zag))))))) (pe_op zcm (pe_ix (zaz K rfl) (pv 3) zah (fun _ _=>rfl)) zah) (fun _ _=>rfl))) (zad (zbd (i:=6) sc__law_deed.nd rfl (by first|left;rfl|right;rfl) zaq) (zad (ps_if (zhy (pv 4)) (zad (zbd (i:=6) sc__law_deed.nd rfl (by first|left;rfl|right;rfl) zaq) (zaf (ps_if (PW.pt (zil (zay op_le (zbe (pv 0) rfl) (pv 7) (zbc _)) (zil (zay op_le (pv 7) (pe_op zev zah zah) (zbc _)) (zik (zay op_gt (pe_ix (zhl K rfl) (pv 8) zah (fun _ _=>rfl)) zah (zbc _)))))) (zad (zbd (i:=6) sc__law_deed.nd rfl (by first|left;rfl|right;rfl) zaq) (zaf (zqt pe_bl (zqs (zdk (hu_of hr) (pv 1) (pv 2) (fun _ _=>rfl)) zah zkm)))) zaw))) zaw) (zaf (zax (zei op_eq (zba D__law_curb (hr.mono (by decide)) rfl passN (zaa (pv 0) (zaa (pv 2) (zaa (pv 7) (zaa (pv 8) zag))))) (pv 6) (zbc _)))))))) zaw) (zad (zbd (i:=6) sc__law_deed.nd rfl (by first|left;rfl|right;rfl) zaq) (zad (ps_if (zhy (pv 4)) (zad (zbd (i:=6) sc__law_deed.nd rfl (by first|left;rfl|right;rfl) zaq) (zaf (zqt pe_bl (zqs (zdk (hu_of hr) (pv 1) (pv 2) (fun _ _=>rfl)) zah zkm)))) zaw) (zaf (zax (zei op_eq (zba D__law_uncurb (hr.mono (by decide)) rfl passN (zaa (pv 0) (zaa (pv 2) zag))) (pv 6) (zbc _))))))))),?_⟩
  show tSeq _ _ _ [some (.ref t),some (.ref wd),some (.str x),some (.ref l),none,none,none,none,none] H
  have dg:DGet H wd (.str x) ((wfn ws x).map fun v=>V.ref v.q):=by
   have:=DGet.k (k:=Sum.inr x) J.G.hd
   rwa [zjh] at this
  refine zae fun R hR=>?_
  walk_at "rd"
  refine ⟨_,dg,hR _ _ ?_⟩
  clear hR
  refine zae fun R hR=>?_
  walk_at "rd"
  refine ixNum 0 hl (by omega) fun y0 _=>⟨_,rfl,ite2 (fun c0=>?_) fun c0=>hR _ _ ?_⟩
  ·clear hR
   refine zae fun R hR=>?_
   walk_at "rd"
   refine ixNum 2 hl (by omega) fun y1 _=>⟨_,rfl,ixNum 2 hl (by omega) fun y2 _=>⟨_,rfl,ixNum 2 hl (by omega) fun y3 _=>⟨_,rfl,ixNum 2 hl (by omega) fun y4 _=>⟨_,rfl,fun p1 f1=>?_⟩⟩⟩⟩
   refine ixNum 3 (zak f1 _ _ hl) (by omega) fun y5 _=>⟨_,rfl,?_⟩
   refine pickS _ f1 (Int.emod_nonneg _ (by decide)) (Int.emod_lt_of_pos _ (by decide)) fun sv hsv H1 s1=>?_
   obtain ⟨sh,rfl⟩:∃ sh:Int,sv = .int sh:=by
    simp only [List.mem_cons,List.not_mem_nil,or_false] at hsv
    rcases hsv with q | q | q | q | q | q <;> exact ⟨_,q⟩
   refine hR _ _ ?_
   clear hR hsv
   have J1:=J.same s1
   have k:∀ D' ws' H',LJ (⟨c_Node,c_Starts,c_Rounds,c_Members,c_Bucket,c_Tree⟩:Cl) wd t H' D' ws'->Stp D ws wd H1 H' D' ws'->Q (.bl true) H':=fun D' ws' H' a b=>k D' ws' H' a (b.pre s1)
   refine zae fun R hR=>?_
   walk_at "rd"
   refine hR _ _ ?_
   clear hR
   refine zae fun R hR=>?_
   cases hx:wfn ws x with
   | none =>
    have cl:=zdt (J1.M.cls J1.W hx)
    walk_at "rd"
    refine ite2 (fun z=>by cases z) fun _=>hR _ _ ?_
    walk_at "rd"
    refine ⟨D,x,sh,by rw [J1.p],J1.O,J1.W,J1.F.fit,fun _ H2 s2=>⟨rfl,by simpa [W1] using k D ws H2 (J1.same s2) (.refl s2)⟩,fun z=>absurd z cl,fun nr _ n un c H2 h1=>absurd ⟨nr,by rw [h1]; simp⟩ cl⟩
   | some w0 =>
    obtain ⟨nr,n0,hn0,nw0⟩:=J1.M.inn J1.W hx
    have gd:Good D x:=⟨nr,by rw [hn0]; simp⟩
    obtain ⟨win,wn⟩:=zel hx
    walk_at "rd"
    refine ite2 (fun _=>?_) fun z=>absurd rfl z
    clear dg
    refine zae fun R2 hR2=>?_
    walk_at "rd"
    refine hR2 _ _ ?_
    clear hR2
    walk_at "rd"
    have bad:¬ (1<=sh/\sh<=1000000)->R [some (.ref t),some (.ref wd),some (.str x),some (.ref l),some (.bl true),some (.int sh),some (.str (Str.ofString "share")),none,none] H1:=fun ns=>hR _ _ (by
     walk_at "rd"
     exact ⟨D,x,sh,by rw [J1.p],J1.O,J1.W,J1.F.fit,fun z=>absurd gd z,fun _ _ H2 s2=>⟨rfl,by simpa [W1] using k D ws H2 (J1.same s2) (.refl s2)⟩,fun _ z=>absurd z ns⟩)
    refine ite2 (fun c1=>ite2 (fun c2=>?_) fun c2=>bad (fun z=>c2 z.2)) fun c1=>bad (fun z=>c1 z.1)
    clear bad
    refine zae fun R2 hR2=>?_
    walk_at "rd"
    refine hR2 _ _ ?_
    clear hR2
    walk_at "rd"
    simp only [gSub]
    walk_at "rd"
    refine ⟨_,we_at J1.G hx,w0.q,_,1,1,rfl,rfl,J1.G.ht w0 win,rfl,hR _ _ ?_⟩
    clear hR
    obtain ⟨O2,G2⟩:=J1.row hx (w1:={ w0 with sh:=sh }) rfl rfl
    walk_at "rd"
    refine ⟨D,x,sh,by rw [J1.p],O2,J1.W,J1.F.fit,fun z=>absurd gd z,fun _ z=>absurd ⟨c1,c2⟩ z,fun _ _ n un c H3 h1 h2 h3 h4 h5 h6 h7=>⟨rfl,?_⟩⟩
    obtain ⟨J3,S3⟩:=J1.resh hx ⟨c1,c2⟩ h1 h2 h3 h4 h5 h6 h7
    simpa [W1] using k _ _ H3 J3 S3
  clear hR
  refine zae fun R hR=>?_
  walk_at "rd"
  refine ixNum 0 hl (by omega) fun y0 _=>⟨_,rfl,ite2 (fun c0=>?_) fun c0=>hR _ _ ?_⟩
  ·clear hR
   obtain ⟨dx,fs,hp,ft⟩:=J.O.ex
   rw [J.p] at hp
   refine zae fun R hR=>?_
   walk_at "rd"
   refine zar hp T.cl_Tree T.na_Tree_most ft.mo ?_
   refine zar hp T.cl_Tree T.na_Tree_most ft.mo ⟨_,rfl,?_⟩
   refine zar hp T.cl_Tree T.na_Tree_most ft.mo ?_
   refine ixNum 2 hl (by omega) fun y1 _=>⟨_,rfl,_,rfl,fun p1 f1=>?_⟩
   refine ixNum 3 (zak f1 _ _ hl) (by omega) fun y5 _=>⟨_,rfl,?_⟩
   refine pickS _ f1 (Int.emod_nonneg _ (by decide)) (Int.emod_lt_of_pos _ (by decide)) fun sv hsv H1 s1=>?_
   obtain ⟨dp,rfl⟩:∃ dp:Int,sv = .int dp:=by
    simp only [List.mem_cons,List.not_mem_nil,or_false] at hsv
    rcases hsv with q | q | q | q | q | q <;> exact ⟨_,q⟩
   refine hR _ _ ?_
   clear hR hsv hp ft
   have hl1:=s1 _ _ hl
   refine zae fun R hR=>?_
   walk_at "rd"
   intro q1 g1 q2 g2 q3 g3 q4 g4 q5 g5 q6 g6 q7 g7
   have t6:=zak (o:=.lst [.ref q1,.ref q2,.ref q3,.ref q4,.ref q5,.ref q6]) g7
   have t5:=(zak (o:=.tup [.int 1,.int 1]) g6).trans t6
   have t4:=(zak (o:=.tup [.int 1000000,.int 1]) g5).trans t5
   have t3:=(zak (o:=.tup [.int 5,.int 3]) g4).trans t4
   have t2:=(zak (o:=.tup [.int 1,.int 1000000]) g3).trans t3
   have t1:=(zak (o:=.tup [.int (-1),.int 2]) g2).trans t2
   have t0:=(zak (o:=.tup [.int 0,.int 1]) g1).trans t1
   refine ixNum 4 (t0 _ _ hl1) (by omega) fun y6 _=>⟨_,rfl,?_⟩
   refine pickV _ (Int.emod_nonneg _ (by decide)) (Int.emod_lt_of_pos _ (by decide)) fun rv hrv=>hR _ _ ?_
   clear hR
   obtain ⟨pr,r,rfl,hpr,zr⟩:∃ pr r,rv = .ref pr/\upd (upd (upd (upd (upd (upd (upd H1 q1 (.tup [.int 0,.int 1])) q2 (.tup [.int (-1),.int 2])) q3 (.tup [.int 1,.int 1000000])) q4 (.tup [.int 5,.int 3])) q5 (.tup [.int 1000000,.int 1])) q6 (.tup [.int 1,.int 1])) q7 (.lst [.ref q1,.ref q2,.ref q3,.ref q4,.ref q5,.ref q6]) pr=some (.tup (fq r))/\Sw.SzQ 5000 r:=by
    simp only [List.mem_cons,List.not_mem_nil,or_false] at hrv
    rcases hrv with q | q | q | q | q | q
    ·exact ⟨q1,⟨0,1,by decide,by decide⟩,q,t1 _ _ zac,⟨Sw.Sz.lit (by decide),Sw.Sz.lit (by decide)⟩⟩
    ·exact ⟨q2,⟨-1,2,by decide,by decide⟩,q,t2 _ _ zac,⟨Sw.Sz.lit (by decide),Sw.Sz.lit (by decide)⟩⟩
    ·exact ⟨q3,⟨1,1000000,by decide,by decide⟩,q,t3 _ _ zac,⟨Sw.Sz.lit (by decide),Sw.Sz.lit (by decide)⟩⟩
    ·exact ⟨q4,⟨5,3,by decide,by decide⟩,q,t4 _ _ zac,⟨Sw.Sz.lit (by decide),Sw.Sz.lit (by decide)⟩⟩
    ·exact ⟨q5,⟨1000000,1,by decide,by decide⟩,q,t5 _ _ zac,⟨Sw.Sz.lit (by decide),Sw.Sz.lit (by decide)⟩⟩
    ·exact ⟨q6,⟨1,1,by decide,by decide⟩,q,t6 _ _ zac,⟨Sw.Sz.lit (by decide),Sw.Sz.lit (by decide)⟩⟩
   refine (show tSeq _ _ _ [some (.ref t),some (.ref wd),some (.str x),some (.ref l),some (.bl (Option.map (fun v=>V.ref v.q) (wfn ws x)).isSome),none,none,some (.int dp),some (.ref pr)] (upd (upd (upd (upd (upd (upd (upd H1 q1 (.tup [.int 0,.int 1])) q2 (.tup [.int (-1),.int 2])) q3 (.tup [.int 1,.int 1000000])) q4 (.tup [.int 5,.int 3])) q5 (.tup [.int 1000000,.int 1])) q6 (.tup [.int 1,.int 1])) q7 (.lst [.ref q1,.ref q2,.ref q3,.ref q4,.ref q5,.ref q6])) from ?_)
   generalize upd (upd (upd (upd (upd (upd (upd H1 q1 (.tup [.int 0,.int 1])) q2 (.tup [.int (-1),.int 2])) q3 (.tup [.int 1,.int 1000000])) q4 (.tup [.int 5,.int 3])) q5 (.tup [.int 1000000,.int 1])) q6 (.tup [.int 1,.int 1])) q7 (.lst [.ref q1,.ref q2,.ref q3,.ref q4,.ref q5,.ref q6])=H2 at t0 hpr ⊢
   have s2:=s1.trans t0
   clear t0 t1 t2 t3 t4 t5 t6 g1 g2 g3 g4 g5 g6 g7 hrv hl1 s1 f1
   have J1:=J.same s2
   have k:∀ D' ws' H',LJ (⟨c_Node,c_Starts,c_Rounds,c_Members,c_Bucket,c_Tree⟩:Cl) wd t H' D' ws'->Stp D ws wd H2 H' D' ws'->Q (.bl true) H':=fun D' ws' H' a b=>k D' ws' H' a (b.pre s2)
   refine zae fun R hR=>?_
   walk_at "rd"
   refine hR _ _ ?_
   clear hR
   refine zae fun R hR=>?_
   cases hx:wfn ws x with
   | none =>
    have cl:=zdt (J1.M.cls J1.W hx)
    walk_at "rd"
    refine ite2 (fun z=>by cases z) fun _=>hR _ _ ?_
    walk_at "rd"
    exact ⟨D,x,dp,pr,r,by rw [J1.p],J1.O,J1.W,hpr,zr,fun _ H3 s3=>⟨rfl,by simpa [W1] using k D ws H3 (J1.same s3) (.refl s3)⟩,fun z=>absurd z cl,fun nr _ n b H3 h1=>absurd ⟨nr,by rw [h1]; simp⟩ cl⟩
   | some w0 =>
    obtain ⟨nr,n0,hn0,nw0⟩:=J1.M.inn J1.W hx
    have gd:Good D x:=⟨nr,by rw [hn0]; simp⟩
    obtain ⟨win,wn⟩:=zel hx
    obtain ⟨dx,fs,hp,ft⟩:=J1.O.ex
    rw [J1.p] at hp
    walk_at "rd"
    refine ite2 (fun _=>?_) fun z=>absurd rfl z
    clear dg
    refine zae fun R2 hR2=>?_
    walk_at "rd"
    refine hR2 _ _ ?_
    clear hR2
    walk_at "rd"
    have bad:¬ (D.most<=dp/\dp<=1000000000000/\0<r)->R [some (.ref t),some (.ref wd),some (.str x),some (.ref l),some (.bl true),none,some (.str (Str.ofString "curb")),some (.int dp),some (.ref pr)] H2:=fun ns=>hR _ _ (by
     walk_at "rd"
     exact ⟨D,x,dp,pr,r,by rw [J1.p],J1.O,J1.W,hpr,zr,fun z=>absurd gd z,fun _ _ H3 s3=>⟨rfl,by simpa [W1] using k D ws H3 (J1.same s3) (.refl s3)⟩,fun _ z=>absurd z ns⟩)
    refine zar hp T.cl_Tree T.na_Tree_most ft.mo ⟨_,rfl,?_⟩
    refine ite2 (fun c1=>ite2 (fun c2=>?_) fun c2=>bad (fun z=>c2 z.2.1)) fun c1=>bad (fun z=>c1 z.1)
    refine zkf (.of hpr) rfl ?_
    walk_at "rd"
    refine ite2 (fun c3=>?_) fun c3=>bad (fun z=>c3 (num_pos.mp z.2.2))
    clear bad
    have r0:0<r:=num_pos.mpr c3
    refine zae fun R2 hR2=>?_
    walk_at "rd"
    refine hR2 _ _ ?_
    clear hR2
    walk_at "rd"
    simp only [gSub]
    walk_at "rd"
    refine ⟨_,we_at J1.G hx,w0.q,_,2,2,rfl,rfl,J1.G.ht w0 win,rfl,hR _ _ ?_⟩
    clear hR
    obtain ⟨O2,G2⟩:=J1.row hx (w1:={ w0 with cu:=true }) rfl rfl
    have npr:pr≠w0.q:=ne_of hpr (J1.G.ht w0 win) (by intro z; cases z)
    walk_at "rd"
    refine ⟨D,x,dp,pr,r,by rw [J1.p],O2,J1.W,by rw [zai npr]; exact hpr,zr,fun z=>absurd gd z,fun _ z=>absurd ⟨c1,c2,r0⟩ z,fun _ _ n b H3 h1 h0 h6 h7=>⟨rfl,?_⟩⟩
    obtain ⟨J3,S3⟩:=J1.curb hx (bk:=some b) (b:=true) rfl h1 (fun y z=>by
     cases z
     by_cases q:b.1=w0.q
     ·rw [q,zac] at h0; cases h0
     ·rw [zai q] at h0; exact h0) h6 h7
    simpa [W1] using k _ _ H3 J3 S3
  clear hR
  have k0:=k
  refine zae fun R hR=>?_
  walk_at "rd"
  refine hR _ _ ?_
  clear hR
  refine zae fun R hR=>?_
  cases hx:wfn ws x with
  | none =>
   have cl:=zdt (J.M.cls J.W hx)
   walk_at "rd"
   refine ite2 (fun z=>by cases z) fun _=>hR _ _ ?_
   walk_at "rd"
   exact ⟨D,x,by rw [J.p],J.O,J.W,fun _ H2 s2=>⟨rfl,by simpa [W1] using k D ws H2 (J.same s2) (.refl s2)⟩,fun nr n H2 h1=>absurd ⟨nr,by rw [h1]; simp⟩ cl⟩
  | some w0 =>
   obtain ⟨nr,n0,hn0,nw0⟩:=J.M.inn J.W hx
   have gd:Good D x:=⟨nr,by rw [hn0]; simp⟩
   obtain ⟨win,wn⟩:=zel hx
   walk_at "rd"
   refine ite2 (fun _=>?_) fun z=>absurd rfl z
   clear dg
   refine zae fun R2 hR2=>?_
   walk_at "rd"
   refine hR2 _ _ ?_
   clear hR2
   walk_at "rd"
   simp only [gSub]
   walk_at "rd"
   refine ⟨_,we_at J.G hx,w0.q,_,2,2,rfl,rfl,J.G.ht w0 win,rfl,hR _ _ ?_⟩
   clear hR
   obtain ⟨O2,G2⟩:=J.row hx (w1:={ w0 with cu:=false }) rfl rfl
   walk_at "rd"
   refine ⟨D,x,by rw [J.p],O2,J.W,fun z=>absurd gd z,fun _ n H3 h1 h6 h7=>⟨rfl,?_⟩⟩
   obtain ⟨J3,S3⟩:=J.curb hx (bk:=none) (b:=false) rfl h1 (fun y z=>by cases z) h6 h7
   simpa [W1] using k _ _ H3 J3 S3
theorem zyn {f:Addr} {fd:FuncData} (F:Fun K "law" "law" s_law f fd) (T:Txt K mg c_WheelError c_NoName c_Taken c_NoClass c_NoPlace c_NoShare c_NoCurb c_NoLength c_TooEarly c_Bucket c_Members c_Chooser c_Starts c_Rounds c_Node c_Tree):FnOk P w K mg base CX0 10 f fd ["_law_script"] (spLaw K):=by
 have D__law_cell_at:=zjx (P:=P) (w:=w) (base:=base) T
 have K_Tree:=zuw (P:=P) (w:=w) (base:=base) T
 have D__law_stream:=zlg (P:=P) (w:=w) (base:=base) T
 have D__law_built:=znk (P:=P) (w:=w) (base:=base) T
 have M_Tree_until:=znh (P:=P) (w:=w) (base:=base) T
 have D__law_deed:=zol (P:=P) (w:=w) (base:=base) T
 have D__law_stands:=zlo (P:=P) (w:=w) (base:=base) T
 have D__law_made:=zoj (P:=P) (w:=w) (base:=base) T
 refine F.ok sc_law (fun vs H Q E h=>?_) (fun cdv A outer s H vs Q E hr h=>?_)
 ·obtain ⟨a,ns,rfl,_⟩:=h
  rfl
 ·obtain ⟨sc,ns,rfl,hS,hlen,k⟩:=h
  refine ⟨_,(zad (zbd (i:=1) sc_law.nd rfl (by first|left;rfl|right;rfl) (pe_op zcm (zba D__law_cell_at (hr.mono (by decide)) rfl passN (zaa (pv 0) (zaa zah zag))) zah)) (zad (zbd (i:=2) sc_law.nd rfl (by first|left;rfl|right;rfl) (zfq (dvs:=[]) K_Tree (by simp) (hr.mono (by decide)) passN rfl T.mg_Tree (zaa (pe_op zeu zah (pe_op zcm (pe_op zfo (pv 1) zah) (pe_ix (zaz K rfl) (zdy (zaa zah (zaa zah (zaa (pe_op zev zah zah) zag)))) (pe_op zcm (pv 1) zah) (fun _ _=>rfl)))) (zaa (pe_ix (zaz K rfl) (zdy (zaa zaq (zaa zaq zag))) (pe_op zcm (pe_op zfo (pv 1) zah) zah) (fun _ _=>rfl)) zag)))) (zad (zbd (i:=3) sc_law.nd rfl (by first|left;rfl|right;rfl) (zba D__law_built (hr.mono (by decide)) rfl passN (zaa (pv 2) (zaa (pe_op zcm (zba D__law_cell_at (hr.mono (by decide)) rfl passN (zaa (pv 0) (zaa zah zag))) zah) zag)))) (zad (zbg (zap (dvs:=[]) M_Tree_until (by simp) T.cl_Tree (hr.mono (by decide)) passN (pv 2) (zaa (pe_op zcm (pv 1) (pe_op zev zah zah)) zag))) (zad (zon PassesOwn.never rfl (zkp K rfl (zig (zih K rfl) (pv 0) (zis zah) (zis zah))) (zfn (i:=1) sc_law.nd rfl (by first|left;rfl|right;rfl)) (zad (zbd (i:=4) sc_law.nd rfl (by first|left;rfl|right;rfl) (zba D__law_stream (hr.mono (by decide)) rfl passN (zaa (pv 1) (zaa zah zag)))) (zad (zbd (i:=5) sc_law.nd rfl (by first|left;rfl|right;rfl) (pe_op zui (zdy (zaa zaq (zaa zaq (zaa zaq zag)))) (pe_op zxj (zlz (zkh rfl) rfl T.no_list boot_list (zaa (pv 3) zag)) zah))) (zad (zbd (i:=6) sc_law.nd rfl (by first|left;rfl|right;rfl) (pe_ix (zaz K rfl) (pv 5) (pe_op zcm (pe_ix (zaz K rfl) (pv 4) zah (fun _ _=>rfl)) (zck (zfv K rfl) rfl T.no_len boot_len (zaa (pv 5) zag))) (fun _ _=>rfl))) (zad (ps_if (PW.pt (pw_or (zim (zhy (zba D__law_deed (hr.mono (by decide)) rfl passN (zaa (pv 2) (zaa (pv 3) (zaa (pv 6) (zaa (pv 4) zag))))))) (zqr (zim (zhy (zba D__law_stands (hr.mono (by decide)) rfl passN (zaa (pv 2) (zaa (pv 3) (zaa (pv 6) zag))))))))) (zaf (zax pe_bl)) zaw) (zad (ps_if (zim (zhy (zba D__law_stands (hr.mono (by decide)) rfl passN (zaa (pv 2) (zaa (pv 3) (zaa (pe_ix (zaz K rfl) (pv 5) (pe_op zcm (pe_ix (zaz K rfl) (pv 4) zah (fun _ _=>rfl)) (zck (zfv K rfl) rfl T.no_len boot_len (zaa (pv 5) zag))) (fun _ _=>rfl)) zag)))))) (zaf (zax pe_bl)) zaw) (zad (zbd (i:=7) sc_law.nd rfl (by first|left;rfl|right;rfl) (pe_ix (zaz K rfl) (zdy (zaa zah (zaa (pe_op zeu zah (pe_op zcm (pe_ix (zaz K rfl) (pv 4) zah (fun _ _=>rfl)) (pe_op zev zah zah))) (zaa (pe_op zeu (pe_op zev zah zah) zah) (zaa (pe_un zlu zah) (zaa (pe_op zev zah zah) (zaa zah zag))))))) (pe_op zcm (pe_ix (zaz K rfl) (pv 4) zah (fun _ _=>rfl)) zah) (fun _ _=>rfl))) (zad (zbd (i:=8) sc_law.nd rfl (by first|left;rfl|right;rfl) (pe_ix (zaz K rfl) (zdy (zaa zaq (zaa zaq (zaa zaq (zaa zaq (zaa zaq zag)))))) (pe_op zcm (pe_ix (zaz K rfl) (pv 4) zah (fun _ _=>rfl)) zah) (fun _ _=>rfl))) (zad (zbd (i:=9) sc_law.nd rfl (by first|left;rfl|right;rfl) zaq) (zad (ps_if (zay (ziv K rfl) (pv 8) (zgi (zaa zaq (zaa zaq zag))) rfl) (zaf (zbd (i:=9) sc_law.nd rfl (by first|left;rfl|right;rfl) zaq)) zaw) (zad (ps_if (PW.pt (pw_or (zay op_lt (pv 7) zah (zbc _)) (zqr (zay op_gt (pv 7) (pe_op zev zah zah) (zbc _))))) (zaf (zbd (i:=9) sc_law.nd rfl (by first|left;rfl|right;rfl) zaq)) zaw) (zaf (ps_if (zay op_ne (zba D__law_made (hr.mono (by decide)) rfl passN (zaa (pv 7) (zaa (pv 8) zag))) (pv 9) (zbc _)) (zaf (zax pe_bl)) zaw))))))))))))) (zaf (zax pe_bl))))))),?_⟩
  show tSeq _ _ _ [some (.ref sc),none,none,none,none,none,none,none,none,none] H
  refine zae fun R hR=>?_
  walk_at "rd"
  refine zmi hS (by omega) ⟨_,rfl,hR _ _ ?_⟩
  clear hR
  have c0:=Int.emod_nonneg (cellI ns 0) (show (2147483647:Int)≠0 by decide)
  have c1:=Int.emod_lt_of_pos (cellI ns 0) (show (0:Int)<2147483647 by decide)
  generalize cellI ns 0 % 2147483647=c at c0 c1
  refine zae fun R hR=>?_
  walk_at "rd"
  have r0:=Int.emod_nonneg c (show (3:Int)≠0 by decide)
  have r1:=Int.emod_lt_of_pos c (show (0:Int)<3 by decide)
  intro p1 f1
  have s1:=zak (o:=.lst [.int 9,.int 40,.int 1000000]) f1
  refine pickM [9,40,1000000] r0 (by show c % 3<3; omega) fun md hmd=>?_
  have mdb:1<=md/\md<=1000000:=by
   simp only [List.mem_cons,List.not_mem_nil,or_false] at hmd
   rcases hmd with q | q | q <;> omega
  refine ⟨_,rfl,by omega,fun p2 f2=>?_⟩
  have s2:=s1.trans (zak (o:=.lst [V.str (Str.ofString "starts"),V.str (Str.ofString "rounds")]) f2)
  refine ixW (ks:=[Str.ofString "starts", Str.ofString "rounds"]) zac (Int.emod_nonneg _ (by decide)) (Int.emod_lt_of_pos _ (by decide)) fun kd hkd=>?_
  have okd:Inner kd:=by
   simp only [List.mem_cons,List.not_mem_nil,or_false] at hkd
   exact hkd
  have mb:1<=1+c / 3 % md/\1+c / 3 % md<=1000000:=by
   have:=Int.emod_nonneg (c / 3) (show md≠0 by omega)
   have:=Int.emod_lt_of_pos (c / 3) (show (0:Int)<md by omega)
   omega
  generalize 1+c / 3 % md=most at mb
  intro x dx hx hdx ne
  refine ⟨x,dx,most,kd,rfl,zac,fun z=>absurd mb z,fun _ z=>absurd okd z,fun _ _ pn pg n a H' en bt fr O=>⟨rfl,hR _ _ ?_⟩⟩
  clear hR
  have sH:Same H H':=fun b o e=>by
   have e:=s2 _ _ e
   exact bt b o (zao e hx) (zdj hx hdx _ _ e)
  have hS1:=sH.seq hS
  have W0:TD.Wf ⟨x,pn,pg,most,0,0,0,[n],[],[]⟩:=TD.Wf.new (n:=n) (a:=a) (b:=kdB kd) rfl (by rw [en]) (by rw [en]) (by rw [en]) mb
  have F0:TD.full ⟨x,pn,pg,most,0,0,0,[n],[],[]⟩:=⟨by show 1<=60; omega,fun y hy d hd=>by
   rw [List.mem_singleton.mp hy,en] at hd
   cases hd
   show (CSt.new (kdB kd)).sz<=_
   have:(CSt.new (kdB kd)).sz = 0:=by cases kdB kd <;> rfl
   rw [this]; exact Nat.zero_le _⟩
  have I0:Idle ⟨x,pn,pg,most,0,0,0,[n],[],[]⟩:=fun y hy=>by rw [List.mem_singleton.mp hy,en]
  have fH:∀ b∈TD.foot ⟨x,pn,pg,most,0,0,0,[n],[],[]⟩,H b=none:=fun b hb=>by
   cases e:H b with
   | none=>rfl
   | some o =>
    have e2:=s2 _ _ e
    rcases fr b hb with q | q
    ·subst q; exact absurd (e2.symm.trans hx) (by simp)
    ·rw [zdj hx hdx _ _ e2] at q; cases q
  have px:(⟨x,pn,pg,most,0,0,0,[n],[],[]⟩:TD).p=x:=rfl
  have tx:(⟨x,pn,pg,most,0,0,0,[n],[],[]⟩:TD).tm = 0:=rfl
  have lx:(⟨x,pn,pg,most,0,0,0,[n],[],[]⟩:TD).ns.length = 1:=rfl
  clear bt fr hx hdx s1 f1 s2 f2 en
  generalize (⟨x,pn,pg,most,0,0,0,[n],[],[]⟩:TD)=D0 at O W0 F0 I0 fH px tx lx
  refine zae fun R hR=>?_
  walk_at "rd"
  refine zmi hS1 (by omega) ⟨_,rfl,?_⟩
  refine ⟨D0,_,by rw [px],Int.emod_nonneg _ (by decide),O,W0,F0,I0,tx,lx,fun wd D1 ws H1 fwd J t1 m1 dd fr fq=>hR _ _ ?_⟩
  clear hR
  rw [px] at J
  have s1:Same H H1:=fun b o e=>dd b o (fun z=>by rw [fH b z] at e; cases e) (sH _ _ e)
  have fwd:H wd=none:=zji sH fwd
  have fH1:∀ b∈D1.foot,H b=none:=fun b hb=>(fr b hb).elim (fH b) (zji sH)
  have fq:∀ v∈ws,H v.q=none:=fun v hv=>zji sH (fq v hv)
  clear dd fr O W0 F0 I0 fH tx lx sH
  refine zae fun R hR=>?_
  walk_at "rd"
  obtain ⟨dx,fs,hp,ft⟩:=J.O.ex
  rw [J.p] at hp
  refine zav hp (ft.mis _ (by decide +kernel) (by decide +kernel) (by decide +kernel) (by decide +kernel) (by decide +kernel) (by decide +kernel)) ⟨D1,_,by rw [J.p],J.O,J.I,by have:=J.F.1; omega,by rw [t1]; exact Int.emod_nonneg _ (by decide),fun H2 O2 dd=>hR _ _ ?_⟩
  clear hR
  have s2:Same H H2:=fun b o e=>dd b o (fun z=>by rw [fH1 b z] at e; cases e) (s1 _ _ e)
  have J2:LJ (⟨c_Node,c_Starts,c_Rounds,c_Members,c_Bucket,c_Tree⟩:Cl) wd x H2 { D1 with tm:=c % 1000000000 } ws:=⟨O2,⟨J.W.nn,J.W.rd,J.W.ra,J.W.up,J.W.kid,J.W.lf,J.W.cok,J.W.m1,J.W.sok⟩,J.F,J.I,J.G.deed dd J.nw J.nq,J.M,J.S,J.nw,J.nq,J.p,J.wl,J.bd⟩
  have fH2:∀ b∈({ D1 with tm:=c % 1000000000 }:TD).foot,H b=none:=fH1
  generalize ({ D1 with tm:=c % 1000000000 }:TD)=D2 at J2 fH2
  clear J hp ft dd O2 t1 m1 fH1 s1
  have hS:=s2.seq hS
  refine zae fun R hR=>?_
  refine zii fun Z hZ=>?_
  walk_at "rd"
  obtain ⟨ms,em,hm⟩:=zrt ns (some 2) (some 26)
  refine zow hS fun sl hsl=>?_
  walk_at "rd"
  refine ⟨⟨_,.of zac⟩,hZ _ _ ?_⟩
  clear hZ
  rw [em]
  have s3:=zak (o:=.lst (ms.map V.int)) hsl
  have h3:upd H2 sl (.lst (ms.map V.int)) sl=some (.lst (ms.map V.int)):=zac
  have fsl:=J2.free hsl
  have J:=J2.same s3
  generalize upd H2 sl (.lst (ms.map V.int))=H3 at J h3 ⊢
  clear s3 hsl hS J2 s2 fH2 fq fwd
  refine zoo (K:=K) (a:=sl) (xs:=ms.map V.int) (fun i σ H'=>∃ v1 v4 v5 v6 v7 v8 v9 D ws,σ = [some (.ref sc),v1,some (.ref x),some (.ref wd),v4,v5,v6,v7,v8,v9]/\LJ (⟨c_Node,c_Starts,c_Rounds,c_Members,c_Bucket,c_Tree⟩:Cl) wd x H' D ws/\H' sl=some (.lst (ms.map V.int))/\Apart sl D ws wd) ⟨_,_,_,_,_,_,_,D2,ws,rfl,J,h3,fsl⟩ (fun i σ H' _ ⟨_,_,_,_,_,_,_,_,_,_,_,h,_⟩=>.of h) ?_ ?_
  ·rintro i v σ H4 hv ⟨v1,v4,v5,v6,v7,v8,v9,D,ws,rfl,J,hsl,fsl⟩
   obtain ⟨y,rfl⟩:∃ y,v=V.int y:=by
    rw [List.getElem?_map] at hv
    cases e:ms[i]? with
    | none=>rw [e] at hv; cases hv
    | some z=>rw [e] at hv; cases hv; exact ⟨z,rfl⟩
   show tSeq _ _ _ [some (.ref sc),some (.int y),some (.ref x),some (.ref wd),v4,v5,v6,v7,v8,v9] H4
   refine znw fun N hN=>?_
   refine zae fun R hR=>?_
   walk_at "rd"
   refine ⟨y,8,rfl,by decide,fun px xs H5 s5 fpx hpx lx bx=>hR _ _ ?_⟩
   clear hR
   have fpx:=J.free fpx
   have J:=J.same s5
   have hsl:=s5 _ _ hsl
   clear s5
   have wl:=J.wl
   refine zae fun R hR=>?_
   walk_at "rd"
   intro p1 f1
   have s1:=zak (o:=.lst [.str (Str.ofString "road"),.str (Str.ofString "zz"),.str (Str.ofString "abcd")]) f1
   refine ⟨wd,_,rfl,s1 _ _ J.G.hd,fun p2 f2=>?_⟩
   have ek:((weK ws).map fun kv=>kV kv.1)=(ws.map (·.nm)).map V.str:=by
    unfold weK
    rw [List.map_map,List.map_map]; rfl
   rw [ek]
   have s2:=s1.trans (zak (o:=.lst ((ws.map (·.nm)).map V.str)) f2)
   refine ⟨p2,3,_,rfl,rfl,zac,by decide,by decide,zkw (by rw [List.length_map,List.length_map]; show ws.length*3<=_; omega),fun p3 f3=>?_⟩
   have er:(List.replicate (3:Int).toNat ((ws.map (·.nm)).map V.str)).flatten=((ws.map (·.nm))++((ws.map (·.nm))++(ws.map (·.nm)))).map V.str:=by
    show (List.replicate 3 ((ws.map (·.nm)).map V.str)).flatten = _
    simp [List.replicate]
   rw [er]
   have s3:=s2.trans (zak (o:=.lst (((ws.map (·.nm))++((ws.map (·.nm))++(ws.map (·.nm)))).map V.str)) f3)
   have h1:=zak (o:=.lst (((ws.map (·.nm))++((ws.map (·.nm))++(ws.map (·.nm)))).map V.str)) f3 _ _ (zak (o:=.lst ((ws.map (·.nm)).map V.str)) f2 p1 _ zac)
   refine ⟨p1,p3,_,_,rfl,rfl,h1,zac,zkw (by rw [List.length_map]; simp only [List.length_cons,List.length_nil,List.length_append,List.length_map]; omega),fun p4 f4=>?_⟩
   have ec:[V.str (Str.ofString "road"),V.str (Str.ofString "zz"),V.str (Str.ofString "abcd")]++((ws.map (·.nm))++((ws.map (·.nm))++(ws.map (·.nm)))).map V.str=(Str.ofString "road" :: Str.ofString "zz" :: Str.ofString "abcd" :: ((ws.map (·.nm))++((ws.map (·.nm))++(ws.map (·.nm))))).map V.str:=rfl
   rw [ec]
   have nl0:0<(Str.ofString "road" :: Str.ofString "zz" :: Str.ofString "abcd" :: ((ws.map (·.nm))++((ws.map (·.nm))++(ws.map (·.nm))))).length:=by rw [List.length_cons]; omega
   generalize (Str.ofString "road" :: Str.ofString "zz" :: Str.ofString "abcd" :: ((ws.map (·.nm))++((ws.map (·.nm))++(ws.map (·.nm)))))=nsL at *
   have s4:=s3.trans (zak (o:=.lst (nsL.map V.str)) f4)
   suffices on:∀ H6,Same H5 H6->H6 p4=some (.lst (nsL.map V.str))->R [some (.ref sc),some (.int y),some (.ref x),some (.ref wd),some (.ref px),some (.ref p4),v6,v7,v8,v9] H6 from on _ s4 zac
   have fp4:=J.free (zji s3 f4)
   clear s1 s2 s3 s4 f1 f2 f3 f4 h1 er ec ek
   intro H6 s6 h6
   refine hR _ _ ?_
   clear hR
   have J6:=J.same s6
   have hsl:=s6 _ _ hsl
   have hpx:=s6 _ _ hpx
   clear s6 J
   have px0:∀ m∈xs,0<=m:=fun m hm=>(bx m hm).1
   refine zae fun R hR=>?_
   walk_at "rd"
   refine ixNum 1 hpx (by omega) fun y1 _=>zov (.of h6) ⟨_,rfl,?_⟩
   rw [List.length_map]
   refine ⟨_,rfl,by omega,ixW h6 (Int.emod_nonneg _ (by omega)) (Int.emod_lt_of_pos _ (by omega)) fun z hz=>hR _ _ ?_⟩
   clear hR
   refine zae fun R hR=>?_
   walk_at "rd"
   refine ⟨wd,x,px,D,ws,z,xs,rfl,J6,hpx,by omega,px0,fun D' ws' H7 J7 st=>?_⟩
   obtain ⟨hsl,fsl⟩:=st.keep fsl hsl
   obtain ⟨hpx,_⟩:=st.keep fpx hpx
   obtain ⟨h7,_⟩:=st.keep fp4 h6
   walk_at "rd"
   refine ⟨D',wd,ws',z,by rw [J7.p],J7.O,J7.W,J7.F.fit,J7.I,J7.G,J7.M,J7.S,J7.bd,by have:=J7.wl; omega,fun H8 s8=>?_⟩
   walk_at "rd"
   refine hR _ _ ?_
   clear hR J6 st h6
   have J8:=J7.same s8
   have hsl:=s8 _ _ hsl
   have hpx:=s8 _ _ hpx
   have h8:=s8 _ _ h7
   clear s8 J7 h7
   refine zae fun R hR=>?_
   walk_at "rd"
   refine ixNum 5 hpx (by omega) fun y5 _=>zov (.of h8) ⟨_,rfl,?_⟩
   rw [List.length_map]
   refine ⟨_,rfl,by omega,ixW h8 (Int.emod_nonneg _ (by omega)) (Int.emod_lt_of_pos _ (by omega)) fun z2 hz2=>?_⟩
   refine ⟨D',wd,ws',z2,by rw [J8.p],J8.O,J8.W,J8.F.fit,J8.I,J8.G,J8.M,J8.S,J8.bd,by have:=J8.wl; omega,fun H9 s9=>?_⟩
   walk_at "rd"
   refine hR _ _ ?_
   clear hR h8
   have J9:=J8.same s9
   have hsl:=s9 _ _ hsl
   have hpx:=s9 _ _ hpx
   clear s9 J8
   refine zae fun R hR=>?_
   walk_at "rd"
   refine ixNum 6 hpx (by omega) fun y6 _=>⟨_,rfl,fun q1 g1=>?_⟩
   refine ixNum 6 (zak g1 _ _ hpx) (by omega) fun y6' _=>⟨_,rfl,?_⟩
   refine pickS _ g1 (Int.emod_nonneg _ (by decide)) (Int.emod_lt_of_pos _ (by decide)) fun sv hsv H10 s10=>?_
   obtain ⟨mo,rfl⟩:∃ mo:Int,sv = .int mo:=by
    simp only [List.mem_cons,List.not_mem_nil,or_false] at hsv
    rcases hsv with q | q | q | q | q | q <;> exact ⟨_,q⟩
   refine hR _ _ ?_
   clear hR hsv
   have J10:=J9.same s10
   have hsl:=s10 _ _ hsl
   have hpx:=s10 _ _ hpx
   clear s10 J9 g1
   refine zae fun R hR=>?_
   walk_at "rd"
   intro q2 g2
   refine ixNum 7 (zak g2 _ _ hpx) (by omega) fun y7 _=>⟨_,rfl,?_⟩
   refine pickS _ g2 (Int.emod_nonneg _ (by decide)) (Int.emod_lt_of_pos _ (by decide)) fun sv hsv H11 s11=>?_
   obtain ⟨kd,rfl⟩:∃ kd:Str,sv = .str kd:=by
    simp only [List.mem_cons,List.not_mem_nil,or_false] at hsv
    rcases hsv with q | q | q | q | q <;> exact ⟨_,q⟩
   refine hR _ _ ?_
   clear hR hsv
   have J11:=J10.same s11
   have hsl:=s11 _ _ hsl
   clear s11 J10 g2 hpx
   refine zae fun R hR=>?_
   walk_at "rd"
   refine hR _ _ ?_
   clear hR
   have fin:∀ Ha D' ws',LJ (⟨c_Node,c_Starts,c_Rounds,c_Members,c_Bucket,c_Tree⟩:Cl) wd x Ha D' ws'->Ha sl=some (.lst (ms.map V.int))->Apart sl D' ws' wd->∀ v9,N [some (.ref sc),some (.int y),some (.ref x),some (.ref wd),some (.ref px),some (.ref p4),some (.str z),some (.int mo),some (.str kd),v9] Ha:=fun Ha D' ws' Ja ha fa v9=>hN _ _ ⟨_,_,_,_,_,_,_,D',ws',rfl,Ja,ha,fa⟩
   clear hN
   refine zae fun R hR=>?_
   have post:∀ Ha,Same H11 Ha->R [some (.ref sc),some (.int y),some (.ref x),some (.ref wd),some (.ref px),some (.ref p4),some (.str z),some (.int mo),some (.str kd),some (W1 (if Inner kd then "made" else "place"))] Ha:=fun Ha sa=>hR _ _ (by
    clear hR
    refine zae fun R hR=>?_
    have Ja:=J11.same sa
    have hsl:=sa _ _ hsl
    have last:∀ due:String,due=(if ¬ (1<=mo/\mo<=1000000) then "length" else if Inner kd then "made" else "place")->R [some (.ref sc),some (.int y),some (.ref x),some (.ref wd),some (.ref px),some (.ref p4),some (.str z),some (.int mo),some (.str kd),some (W1 due)] Ha:=fun due ed=>hR _ _ (by
     clear hR
     walk_at "rd"
     refine ⟨mo,kd,rfl,fun Hb sb=>⟨rfl,?_⟩⟩
     refine ite2 (fun _=>fin Hb _ _ (Ja.same sb) (sb _ _ hsl) fsl _) fun z=>absurd (congrArg W1 ed.symm) z)
    clear hR
    have lng:¬ (1<=mo/\mo<=1000000)->R [some (.ref sc),some (.int y),some (.ref x),some (.ref wd),some (.ref px),some (.ref p4),some (.str z),some (.int mo),some (.str kd),some (.str (Str.ofString "length"))] Ha:=fun c=>last "length" (by rw [if_pos c])
    walk_at "rd"
    refine ite2 (fun c1=>lng (by omega)) fun c1=>ite2 (fun c2=>lng (by omega)) fun c2=>last (if Inner kd then "made" else "place") (by rw [if_neg (show ¬ ¬ (1<=mo/\mo<=1000000) from fun z=>z ⟨by omega,by omega⟩)]))
   clear hR
   walk_at "rd"
   intro q3 g3
   refine ⟨_,_,rfl,.inr (.of zac),rfl,rfl,_,rfl,?_⟩
   rw [zkx,if_pos rfl]
   have post:=post _ (zak (o:=.tup [V.str (Str.ofString "starts"),V.str (Str.ofString "rounds")]) g3)
   by_cases ik:Inner kd
   ·rw [if_pos ik] at post
    rw [if_neg (by simp [ik])]
    exact post
   ·rw [if_neg ik] at post
    rw [if_pos (by simp [ik])]
    exact post
  ·rintro σ H4 _
   refine hR _ _ ?_
   walk_at "rd"
   exact k _
end
theorem all_mk {l:PySem.W.OpenLaw} {w:World} {K:PySem.W.Frag} {h:Heap} {mg:Str->Option Value} {fa f1 f2 f3 f4 f5 f6 f7 f8 f9 f10 f11 f12 f13 f14 f15 f16 f17 f18 f19 f20:Addr} (X:K.In h) (G:h.Ns mainGlobals mg) (hfa:mg "law" = some (.ref fa))
    {od1 an1 od2 an2 od3 an3 od4 an4 od5 an5 od6 an6 od7 an7 od8 an8 od9 an9 qa qb qc qd qe qf qg qh qi qj qk ql qm qn qo qp qr qs qt qu qv qw:Option Addr} {sl1 sl2 sl3 sl4 sl5 sl6 sl7 sl8 sl9 qx qy qz qba qbb qbc qbd qbe qbf qbg qbh:Array (Option Value)} {oc1 kV1 dc1 pm1 cd1 ct1 oc2 kV2 dc2 pm2 cd2 ct2 oc3 kV3 dc3 pm3 cd3 ct3 oc4 kV4 dc4 pm4 cd4 ct4 oc5 kV5 dc5 pm5 cd5 ct5 oc6 kV6 dc6 pm6 cd6 ct6 oc7 kV7 dc7 pm7 cd7 ct7 oc8 kV8 dc8 pm8 cd8 ct8 oc9 kV9 dc9 pm9 cd9 ct9 qbi qbj qbk qbl qbm qbn qbo qbp qbq qbr qbs qbt qbu qbv qbw qbx qby qbz qca qcb qcc qcd qce qcf qcg qch qci qcj qck qcl qcm qcn qco qcp qcq qcr qcs qct qcu qcv qcw qcx qcy qcz qda qdb qdc qdd qde qdf qdg qdh qdi qdj qdk qdl qdm qdn qdo qdp qdq qdr qds qdt qdu qdv:Value}
    {qdw qdx qdy qdz qea qeb qec qed:Tok}
    {qee:Addr} {qef:Option Addr} {qeg:Nat} {qeh:Array (Option Value)} {qei qej:Tok}
    {qek qel qem qen qeo qep qeq qer qes:Addr}
    {qet qeu qev qew qex qey qez qfa qfb:ClassData}
    (qfc:PySem.W.nsIn K mainGlobals "WheelError" = some (some (.ref qek)))
    (qfd:PySem.W.hasDictIn K qek=true)
    (qfe:PySem.W.findIn K (.ref qek) "__getattribute__" = some (some (.builtin "BaseException.__getattribute__")))
    (qff:PySem.W.findIn K (.ref qek) "__getattr__" = some none)
    (qfg:PySem.W.findIn K (.ref qek) "__setattr__" = some (some (.builtin "object.__setattr__")))
    (qfh:PySem.W.findIn K (.ref qek) "__class__" = some (some (.builtin "object.__class__")))
    (qfi:PySem.W.mroIn K qek (.type "BaseException")=some true)
    (qfj:PySem.W.mroIn K qek (.type "object")=some true)
    (qfk:PySem.W.keepIn K (.ref qek)=true)
    (qfl:PySem.W.clsIn K qek=some qet)
    (qfm:PySem.W.typeIn K (.ref qek)=some (.type "type"))
    (qfn:PySem.W.excIn K qek bmV "ValueError.__new__" = true)
    (qfo:PySem.W.nsIn K mainGlobals "NoName" = some (some (.ref qel)))
    (qfp:PySem.W.hasDictIn K qel=true)
    (qfq:PySem.W.findIn K (.ref qel) "__getattribute__" = some (some (.builtin "BaseException.__getattribute__")))
    (qfr:PySem.W.findIn K (.ref qel) "__getattr__" = some none)
    (qfs:PySem.W.findIn K (.ref qel) "__setattr__" = some (some (.builtin "object.__setattr__")))
    (qft:PySem.W.findIn K (.ref qel) "__class__" = some (some (.builtin "object.__class__")))
    (qfu:PySem.W.mroIn K qel (.type "BaseException")=some true)
    (qfv:PySem.W.mroIn K qel (.type "object")=some true)
    (qfw:PySem.W.keepIn K (.ref qel)=true)
    (qfx:PySem.W.clsIn K qel=some qeu)
    (qfy:PySem.W.typeIn K (.ref qel)=some (.type "type"))
    (qfz:PySem.W.excIn K qel bmV "ValueError.__new__" = true)
    (qga:PySem.W.nsIn K mainGlobals "Taken" = some (some (.ref qem)))
    (qgb:PySem.W.hasDictIn K qem=true)
    (qgc:PySem.W.findIn K (.ref qem) "__getattribute__" = some (some (.builtin "BaseException.__getattribute__")))
    (qgd:PySem.W.findIn K (.ref qem) "__getattr__" = some none)
    (qge:PySem.W.findIn K (.ref qem) "__setattr__" = some (some (.builtin "object.__setattr__")))
    (qgf:PySem.W.findIn K (.ref qem) "__class__" = some (some (.builtin "object.__class__")))
    (qgg:PySem.W.mroIn K qem (.type "BaseException")=some true)
    (qgh:PySem.W.mroIn K qem (.type "object")=some true)
    (qgi:PySem.W.keepIn K (.ref qem)=true)
    (qgj:PySem.W.clsIn K qem=some qev)
    (qgk:PySem.W.typeIn K (.ref qem)=some (.type "type"))
    (qgl:PySem.W.excIn K qem bmV "ValueError.__new__" = true)
    (qgm:PySem.W.nsIn K mainGlobals "NoClass" = some (some (.ref qen)))
    (qgn:PySem.W.hasDictIn K qen=true)
    (qgo:PySem.W.findIn K (.ref qen) "__getattribute__" = some (some (.builtin "BaseException.__getattribute__")))
    (qgp:PySem.W.findIn K (.ref qen) "__getattr__" = some none)
    (qgq:PySem.W.findIn K (.ref qen) "__setattr__" = some (some (.builtin "object.__setattr__")))
    (qgr:PySem.W.findIn K (.ref qen) "__class__" = some (some (.builtin "object.__class__")))
    (qgs:PySem.W.mroIn K qen (.type "BaseException")=some true)
    (qgt:PySem.W.mroIn K qen (.type "object")=some true)
    (qgu:PySem.W.keepIn K (.ref qen)=true)
    (qgv:PySem.W.clsIn K qen=some qew)
    (qgw:PySem.W.typeIn K (.ref qen)=some (.type "type"))
    (qgx:PySem.W.excIn K qen bmV "ValueError.__new__" = true)
    (qgy:PySem.W.nsIn K mainGlobals "NoPlace" = some (some (.ref qeo)))
    (qgz:PySem.W.hasDictIn K qeo=true)
    (qha:PySem.W.findIn K (.ref qeo) "__getattribute__" = some (some (.builtin "BaseException.__getattribute__")))
    (qhb:PySem.W.findIn K (.ref qeo) "__getattr__" = some none)
    (qhc:PySem.W.findIn K (.ref qeo) "__setattr__" = some (some (.builtin "object.__setattr__")))
    (qhd:PySem.W.findIn K (.ref qeo) "__class__" = some (some (.builtin "object.__class__")))
    (qhe:PySem.W.mroIn K qeo (.type "BaseException")=some true)
    (qhf:PySem.W.mroIn K qeo (.type "object")=some true)
    (qhg:PySem.W.keepIn K (.ref qeo)=true)
    (qhh:PySem.W.clsIn K qeo=some qex)
    (qhi:PySem.W.typeIn K (.ref qeo)=some (.type "type"))
    (qhj:PySem.W.excIn K qeo bmV "ValueError.__new__" = true)
    (qhk:PySem.W.nsIn K mainGlobals "NoShare" = some (some (.ref qep)))
    (qhl:PySem.W.hasDictIn K qep=true)
    (qhm:PySem.W.findIn K (.ref qep) "__getattribute__" = some (some (.builtin "BaseException.__getattribute__")))
    (qhn:PySem.W.findIn K (.ref qep) "__getattr__" = some none)
    (qho:PySem.W.findIn K (.ref qep) "__setattr__" = some (some (.builtin "object.__setattr__")))
    (qhp:PySem.W.findIn K (.ref qep) "__class__" = some (some (.builtin "object.__class__")))
    (qhq:PySem.W.mroIn K qep (.type "BaseException")=some true)
    (qhr:PySem.W.mroIn K qep (.type "object")=some true)
    (qhs:PySem.W.keepIn K (.ref qep)=true)
    (qht:PySem.W.clsIn K qep=some qey)
    (qhu:PySem.W.typeIn K (.ref qep)=some (.type "type"))
    (qhv:PySem.W.excIn K qep bmV "ValueError.__new__" = true)
    (qhw:PySem.W.nsIn K mainGlobals "NoCurb" = some (some (.ref qeq)))
    (qhx:PySem.W.hasDictIn K qeq=true)
    (qhy:PySem.W.findIn K (.ref qeq) "__getattribute__" = some (some (.builtin "BaseException.__getattribute__")))
    (qhz:PySem.W.findIn K (.ref qeq) "__getattr__" = some none)
    (qia:PySem.W.findIn K (.ref qeq) "__setattr__" = some (some (.builtin "object.__setattr__")))
    (qib:PySem.W.findIn K (.ref qeq) "__class__" = some (some (.builtin "object.__class__")))
    (qic:PySem.W.mroIn K qeq (.type "BaseException")=some true)
    (qid:PySem.W.mroIn K qeq (.type "object")=some true)
    (qie:PySem.W.keepIn K (.ref qeq)=true)
    (qif:PySem.W.clsIn K qeq=some qez)
    (qig:PySem.W.typeIn K (.ref qeq)=some (.type "type"))
    (qih:PySem.W.excIn K qeq bmV "ValueError.__new__" = true)
    (qii:PySem.W.nsIn K mainGlobals "NoLength" = some (some (.ref qer)))
    (qij:PySem.W.hasDictIn K qer=true)
    (qik:PySem.W.findIn K (.ref qer) "__getattribute__" = some (some (.builtin "BaseException.__getattribute__")))
    (qil:PySem.W.findIn K (.ref qer) "__getattr__" = some none)
    (qim:PySem.W.findIn K (.ref qer) "__setattr__" = some (some (.builtin "object.__setattr__")))
    (qin:PySem.W.findIn K (.ref qer) "__class__" = some (some (.builtin "object.__class__")))
    (qio:PySem.W.mroIn K qer (.type "BaseException")=some true)
    (qip:PySem.W.mroIn K qer (.type "object")=some true)
    (qiq:PySem.W.keepIn K (.ref qer)=true)
    (qir:PySem.W.clsIn K qer=some qfa)
    (qis:PySem.W.typeIn K (.ref qer)=some (.type "type"))
    (qit:PySem.W.excIn K qer bmV "ValueError.__new__" = true)
    (qiu:PySem.W.nsIn K mainGlobals "TooEarly" = some (some (.ref qes)))
    (qiv:PySem.W.hasDictIn K qes=true)
    (qiw:PySem.W.findIn K (.ref qes) "__getattribute__" = some (some (.builtin "BaseException.__getattribute__")))
    (qix:PySem.W.findIn K (.ref qes) "__getattr__" = some none)
    (qiy:PySem.W.findIn K (.ref qes) "__setattr__" = some (some (.builtin "object.__setattr__")))
    (qiz:PySem.W.findIn K (.ref qes) "__class__" = some (some (.builtin "object.__class__")))
    (qja:PySem.W.mroIn K qes (.type "BaseException")=some true)
    (qjb:PySem.W.mroIn K qes (.type "object")=some true)
    (qjc:PySem.W.keepIn K (.ref qes)=true)
    (qjd:PySem.W.clsIn K qes=some qfb)
    (qje:PySem.W.typeIn K (.ref qes)=some (.type "type"))
    (qjf:PySem.W.excIn K qes bmV "ValueError.__new__" = true)
    (kg:PySem.W.specialIn K (.builtin "object.__class__") "__get__" = some (some (.builtin "getset_descriptor.__get__")))
    (kt:PySem.W.takesIn K (.builtin "object.__class__")=some true)
    (qjg:PySem.W.subIn K (.ref qen) (.ref qen)=some true)
    (qjh:PySem.W.subIn K (.ref qeo) (.ref qeo)=some true)
    (qji:PySem.W.subIn K (.ref qeo) (.ref qer)=some false)
    (qjj:PySem.W.subIn K (.ref qep) (.ref qek)=some true)
    (qjk:(Value.ref qep == Value.ref qek)=false)
    (qjl:PySem.W.subIn K (.ref qep) (.ref qen)=some false)
    (qjm:(Value.ref qep == Value.ref qen)=false)
    (qjn:PySem.W.subIn K (.ref qep) (.ref qep)=some true)
    (qjo:PySem.W.subIn K (.ref qep) (.ref qeq)=some false)
    (qjp:(Value.ref qep == Value.ref qeq)=false)
    (qjq:PySem.W.subIn K (.ref qeq) (.ref qek)=some true)
    (qjr:(Value.ref qeq == Value.ref qek)=false)
    (qjs:PySem.W.subIn K (.ref qeq) (.ref qen)=some false)
    (qjt:(Value.ref qeq == Value.ref qen)=false)
    (qju:PySem.W.subIn K (.ref qeq) (.ref qep)=some false)
    (qjv:(Value.ref qeq == Value.ref qep)=false)
    (qjw:PySem.W.subIn K (.ref qeq) (.ref qeq)=some true)
    (qjx:PySem.W.subIn K (.ref qer) (.ref qer)=some true)
    (a1:PySem.W.nsIn K mainGlobals "divisor" = some (some (.ref f1))) (l1:K.lookup f1=some ⟨oc1,od1,.func (PySem.W.fnOf "divisor" "divisor" (zam zfj) (zaj zfj) (zab zfj) .none kV1 dc1 pm1 an1 cd1 ct1),sl1⟩) (c1:PySem.W.codeIn K cd1 "divisor" = true) (k1:PySem.W.keepIn K (.ref f1)=true)
    (a2:PySem.W.nsIn K mainGlobals "ratio" = some (some (.ref f2))) (l2:K.lookup f2=some ⟨oc2,od2,.func (PySem.W.fnOf "ratio" "ratio" (zam zht) (zaj zht) (zab zht) .none kV2 dc2 pm2 an2 cd2 ct2),sl2⟩) (c2:PySem.W.codeIn K cd2 "ratio" = true) (k2:PySem.W.keepIn K (.ref f2)=true)
    (a3:PySem.W.nsIn K mainGlobals "under" = some (some (.ref f3))) (l3:K.lookup f3=some ⟨oc3,od3,.func (PySem.W.fnOf "under" "under" (zam zhu) (zaj zhu) (zab zhu) .none kV3 dc3 pm3 an3 cd3 ct3),sl3⟩) (c3:PySem.W.codeIn K cd3 "under" = true) (k3:PySem.W.keepIn K (.ref f3)=true)
    (a4:PySem.W.nsIn K mainGlobals "check_share" = some (some (.ref f4))) (l4:K.lookup f4=some ⟨oc4,od4,.func (PySem.W.fnOf "check_share" "check_share" (zam zdo) (zaj zdo) (zab zdo) .none kV4 dc4 pm4 an4 cd4 ct4),sl4⟩) (c4:PySem.W.codeIn K cd4 "check_share" = true) (k4:PySem.W.keepIn K (.ref f4)=true)
    (a5:PySem.W.nsIn K mainGlobals "check_most" = some (some (.ref f5))) (l5:K.lookup f5=some ⟨oc5,od5,.func (PySem.W.fnOf "check_most" "check_most" (zam zeb) (zaj zeb) (zab zeb) .none kV5 dc5 pm5 an5 cd5 ct5),sl5⟩) (c5:PySem.W.codeIn K cd5 "check_most" = true) (k5:PySem.W.keepIn K (.ref f5)=true)
    (a6:PySem.W.nsIn K mainGlobals "is_name" = some (some (.ref f6))) (l6:K.lookup f6=some ⟨oc6,od6,.func (PySem.W.fnOf "is_name" "is_name" (zam zfk) (zaj zfk) (zab zfk) .none kV6 dc6 pm6 an6 cd6 ct6),sl6⟩) (c6:PySem.W.codeIn K cd6 "is_name" = true) (k6:PySem.W.keepIn K (.ref f6)=true)
    (a7:PySem.W.nsIn K mainGlobals "chooser_of" = some (some (.ref f7))) (l7:K.lookup f7=some ⟨oc7,od7,.func (PySem.W.fnOf "chooser_of" "chooser_of" (zam zec) (zaj zec) (zab zec) .none kV7 dc7 pm7 an7 cd7 ct7),sl7⟩) (c7:PySem.W.codeIn K cd7 "chooser_of" = true) (k7:PySem.W.keepIn K (.ref f7)=true)
    (a8:PySem.W.nsIn K mainGlobals "_law_cell_at" = some (some (.ref f8))) (l8:K.lookup f8=some ⟨oc8,od8,.func (PySem.W.fnOf "_law_cell_at" "_law_cell_at" (zam zdg) (zaj zdg) (zab zdg) .none kV8 dc8 pm8 an8 cd8 ct8),sl8⟩) (c8:PySem.W.codeIn K cd8 "_law_cell_at" = true) (k8:PySem.W.keepIn K (.ref f8)=true)
    (a9:PySem.W.nsIn K mainGlobals "_law_stream" = some (some (.ref f9))) (l9:K.lookup f9=some ⟨oc9,od9,.func (PySem.W.fnOf "_law_stream" "_law_stream" (zam zdp) (zaj zdp) (zab zdp) .none kV9 dc9 pm9 an9 cd9 ct9),sl9⟩) (c9:PySem.W.codeIn K cd9 "_law_stream" = true) (k9:PySem.W.keepIn K (.ref f9)=true)
    (a10:PySem.W.nsIn K mainGlobals "_law_share" = some (some (.ref f10))) (l10:K.lookup f10=some ⟨qbi,qa,.func (PySem.W.fnOf "_law_share" "_law_share" (zam zed) (zaj zed) (zab zed) .none qbj qbk qbl qb qbm qbn),qx⟩) (c10:PySem.W.codeIn K qbm "_law_share" = true) (k10:PySem.W.keepIn K (.ref f10)=true)
    (a11:PySem.W.nsIn K mainGlobals "_law_curb" = some (some (.ref f11))) (l11:K.lookup f11=some ⟨qbo,qc,.func (PySem.W.fnOf "_law_curb" "_law_curb" (zam zep) (zaj zep) (zab zep) .none qbp qbq qbr qd qbs qbt),qy⟩) (c11:PySem.W.codeIn K qbs "_law_curb" = true) (k11:PySem.W.keepIn K (.ref f11)=true)
    (a12:PySem.W.nsIn K mainGlobals "_law_uncurb" = some (some (.ref f12))) (l12:K.lookup f12=some ⟨qbu,qe,.func (PySem.W.fnOf "_law_uncurb" "_law_uncurb" (zam zdq) (zaj zdq) (zab zdq) .none qbv qbw qbx qf qby qbz),qz⟩) (c12:PySem.W.codeIn K qby "_law_uncurb" = true) (k12:PySem.W.keepIn K (.ref f12)=true)
    (a13:PySem.W.nsIn K mainGlobals "_law_asked" = some (some (.ref f13))) (l13:K.lookup f13=some ⟨qca,qg,.func (PySem.W.fnOf "_law_asked" "_law_asked" (zam zee) (zaj zee) (zab zee) .none qcb qcc qcd qh qce qcf),qba⟩) (c13:PySem.W.codeIn K qce "_law_asked" = true) (k13:PySem.W.keepIn K (.ref f13)=true)
    (a14:PySem.W.nsIn K mainGlobals "_law_made" = some (some (.ref f14))) (l14:K.lookup f14=some ⟨qcg,qi,.func (PySem.W.fnOf "_law_made" "_law_made" (zam zeq) (zaj zeq) (zab zeq) .none qch qci qcj qj qck qcl),qbb⟩) (c14:PySem.W.codeIn K qck "_law_made" = true) (k14:PySem.W.keepIn K (.ref f14)=true)
    (a15:PySem.W.nsIn K mainGlobals "_law_lowest" = some (some (.ref f15))) (l15:K.lookup f15=some ⟨qcm,qk,.func (PySem.W.fnOf "_law_lowest" "_law_lowest" (zam zdr) (zaj zdr) (zab zdr) .none qcn qco qcp ql qcq qcr),qbc⟩) (c15:PySem.W.codeIn K qcq "_law_lowest" = true) (k15:PySem.W.keepIn K (.ref f15)=true)
    (a16:PySem.W.nsIn K mainGlobals "_law_part" = some (some (.ref f16))) (l16:K.lookup f16=some ⟨qcs,qm,.func (PySem.W.fnOf "_law_part" "_law_part" (zam zer) (zaj zer) (zab zer) .none qct qcu qcv qn qcw qcx),qbd⟩) (c16:PySem.W.codeIn K qcw "_law_part" = true) (k16:PySem.W.keepIn K (.ref f16)=true)
    (a17:PySem.W.nsIn K mainGlobals "_law_stands" = some (some (.ref f17))) (l17:K.lookup f17=some ⟨qcy,qo,.func (PySem.W.fnOf "_law_stands" "_law_stands" (zam zds) (zaj zds) (zab zds) .none qcz qda qdb qp qdc qdd),qbe⟩) (c17:PySem.W.codeIn K qdc "_law_stands" = true) (k17:PySem.W.keepIn K (.ref f17)=true)
    (a18:PySem.W.nsIn K mainGlobals "_law_built" = some (some (.ref f18))) (l18:K.lookup f18=some ⟨qde,qr,.func (PySem.W.fnOf "_law_built" "_law_built" (zam zef) (zaj zef) (zab zef) .none qdf qdg qdh qs qdi qdj),qbf⟩) (c18:PySem.W.codeIn K qdi "_law_built" = true) (k18:PySem.W.keepIn K (.ref f18)=true)
    (a19:PySem.W.nsIn K mainGlobals "_law_deed" = some (some (.ref f19))) (l19:K.lookup f19=some ⟨qdk,qt,.func (PySem.W.fnOf "_law_deed" "_law_deed" (zam zes) (zaj zes) (zab zes) .none qdl qdm qdn qu qdo qdp),qbg⟩) (c19:PySem.W.codeIn K qdo "_law_deed" = true) (k19:PySem.W.keepIn K (.ref f19)=true)
    (a20:PySem.W.nsIn K mainGlobals "law" = some (some (.ref f20))) (l20:K.lookup f20=some ⟨qdq,qv,.func (PySem.W.fnOf "law" "law" (zam s_law) (zaj s_law) (zab s_law) .none qdr qds qdt qw qdu qdv),qbh⟩) (c20:PySem.W.codeIn K qdu "law" = true) (k20:PySem.W.keepIn K (.ref f20)=true)
    (z1:PySem.W.nsIn K mainGlobals "abs" = some none)
    (z2:PySem.W.nsIn K mainGlobals "all" = some none)
    (z3:PySem.W.nsIn K mainGlobals "len" = some none)
    (z4:PySem.W.nsIn K mainGlobals "range" = some none)
    (z5:PySem.W.nsIn K mainGlobals "isinstance" = some none)
    (z6:PySem.W.nsIn K mainGlobals "sum" = some none)
    (z7:PySem.W.nsIn K mainGlobals "list" = some none)
    (z8:PySem.W.nsIn K mainGlobals "min" = some none)
    (z9:PySem.W.nsIn K mainGlobals "max" = some none)
    (qjy:PySem.W.nsIn K mainGlobals "GREATEST_SHARE" = some (some (.int 1000000 qdw)))
    (qjz:PySem.W.nsIn K mainGlobals "GREATEST_LENGTH" = some (some (.int 1000000 qdx)))
    (qka:PySem.W.nsIn K mainGlobals "LETTERS" = some (some (.str (Str.ofString "abcdefghijklmnopqrstuvwxyz") qdy)))
    (qkb:PySem.W.nsIn K mainGlobals "LONGEST_NAME" = some (some (.int 8 qdz)))
    (qkc:PySem.W.nsIn K mainGlobals "ROAD" = some (some (.str (Str.ofString "road") qea)))
    (qkd:PySem.W.nsIn K mainGlobals "INNER_KINDS" = some (some (.ref qee)))
    (qke:K.lookup qee=some ⟨.type "tuple", qef,.seq #[.str (Str.ofString "starts") qei,.str (Str.ofString "rounds") qej] qeg,qeh⟩)
    (qkf:PySem.W.nsIn K mainGlobals "LONGEST_WAY" = some (some (.int 5 qeb)))
    (qkg:PySem.W.nsIn K mainGlobals "LEAF" = some (some (.str (Str.ofString "leaf") qec)))
    (qkh:PySem.W.nsIn K mainGlobals "GREATEST_DEPTH" = some (some (.int 1000000000000 qed)))
    {qki:Addr}
    (qkj:PySem.W.nsIn K mainGlobals "Bucket" = some (some (.ref qki)))
    (qkk:PySem.W.plainGet K qki Str.empty=true)
    (qkl:PySem.W.hasDictIn K qki=true)
    (qkm:PySem.W.plainOver K qki=true)
    (qkn:PySem.W.findIn K (.ref qki) "__setattr__" = some (some (.builtin "object.__setattr__")))
    (qko:PySem.W.makesIn K qki=true)
    (qkp:PySem.W.keepIn K (.ref qki)=true)
    (qkq:PySem.W.findIn K (.ref qki) "depth" = some none)
    (qkr:PySem.W.findIn K (.ref qki) "rate" = some none)
    (qks:PySem.W.findIn K (.ref qki) "since" = some none)
    (qkt:PySem.W.findIn K (.ref qki) "left" = some none)
    {qku:Addr} {qkv qkw:Option Addr} {qkx:Array (Option Value)} {qky qkz qla qlb qlc qld:Value}
    {qle:Addr} {qlf:Value} {qlg:Option Addr} {qlh:Nat} {qli:Array (Option Value)} {qlj:Tok}
    (qlk:PySem.W.findIn K (.ref qki) "__init__" = some (some (.ref qku)))
    (qll:PySem.W.isFn K (.ref qku)=true)
    (qlm:K.lookup qku=some ⟨qky,qkv,.func (PySem.W.fnOf "__init__" "Bucket.__init__" (zam zbk) (zaj zbk) (zab zbk) (.ref qle) qkz qla qlb qkw qlc qld),qkx⟩)
    (qln:PySem.W.codeIn K qlc "Bucket.__init__" = true)
    (qlo:PySem.W.keepIn K (.ref qku)=true)
    (qlp:K.lookup qle=some ⟨qlf,qlg,.seq #[.int 0 qlj] qlh,qli⟩)
    {qlq:Addr}
    (qlr:PySem.W.nsIn K mainGlobals "Members" = some (some (.ref qlq)))
    (qls:PySem.W.plainGet K qlq Str.empty=true)
    (qlt:PySem.W.hasDictIn K qlq=true)
    (qlu:PySem.W.plainOver K qlq=true)
    (qlv:PySem.W.findIn K (.ref qlq) "__setattr__" = some (some (.builtin "object.__setattr__")))
    (qlw:PySem.W.makesIn K qlq=true)
    (qlx:PySem.W.keepIn K (.ref qlq)=true)
    (qly:PySem.W.findIn K (.ref qlq) "shares" = some none)
    {qlz:Addr} {qma qmb:Option Addr} {qmc:Array (Option Value)} {qmd qme qmf qmg qmh qmi:Value}
    (qmj:PySem.W.findIn K (.ref qlq) "__init__" = some (some (.ref qlz)))
    (qmk:PySem.W.isFn K (.ref qlz)=true)
    (qml:K.lookup qlz=some ⟨qmd,qma,.func (PySem.W.fnOf "__init__" "Members.__init__" (zam zcp) (zaj zcp) (zab zcp) .none qme qmf qmg qmb qmh qmi),qmc⟩)
    (qmm:PySem.W.codeIn K qmh "Members.__init__" = true)
    (qmn:PySem.W.keepIn K (.ref qlz)=true)
    {qmo:Addr} {qmp qmq:Option Addr} {qmr:Array (Option Value)} {qms qmt qmu qmv qmw qmx:Value}
    (qmy:PySem.W.findIn K (.ref qlq) "check_name" = some (some (.ref qmo)))
    (qmz:PySem.W.isFn K (.ref qmo)=true)
    (qna:K.lookup qmo=some ⟨qms,qmp,.func (PySem.W.fnOf "check_name" "Members.check_name" (zam zbh) (zaj zbh) (zab zbh) .none qmt qmu qmv qmq qmw qmx),qmr⟩)
    (qnb:PySem.W.codeIn K qmw "Members.check_name" = true)
    (qnc:PySem.W.keepIn K (.ref qmo)=true)
    {qnd:Addr} {qne qnf:Option Addr} {qng:Array (Option Value)} {qnh qni qnj qnk qnl qnm:Value}
    (qnn:PySem.W.findIn K (.ref qlq) "put" = some (some (.ref qnd)))
    (qno:PySem.W.isFn K (.ref qnd)=true)
    (qnp:K.lookup qnd=some ⟨qnh,qne,.func (PySem.W.fnOf "put" "Members.put" (zam zcw) (zaj zcw) (zab zcw) .none qni qnj qnk qnf qnl qnm),qng⟩)
    (qnq:PySem.W.codeIn K qnl "Members.put" = true)
    (qnr:PySem.W.keepIn K (.ref qnd)=true)
    {qns:Addr} {qnt qnu:Option Addr} {qnv:Array (Option Value)} {qnw qnx qny qnz qoa qob:Value}
    (qoc:PySem.W.findIn K (.ref qlq) "reshare" = some (some (.ref qns)))
    (qod:PySem.W.isFn K (.ref qns)=true)
    (qoe:K.lookup qns=some ⟨qnw,qnt,.func (PySem.W.fnOf "reshare" "Members.reshare" (zam zbu) (zaj zbu) (zab zbu) .none qnx qny qnz qnu qoa qob),qnv⟩)
    (qof:PySem.W.codeIn K qoa "Members.reshare" = true)
    (qog:PySem.W.keepIn K (.ref qns)=true)
    {qoh:Addr} {qoi qoj:Option Addr} {qok:Array (Option Value)} {qol qom qon qoo qop qoq:Value}
    (qor:PySem.W.findIn K (.ref qlq) "names" = some (some (.ref qoh)))
    (qos:PySem.W.isFn K (.ref qoh)=true)
    (qot:K.lookup qoh=some ⟨qol,qoi,.func (PySem.W.fnOf "names" "Members.names" (zam zcv) (zaj zcv) (zab zcv) .none qom qon qoo qoj qop qoq),qok⟩)
    (qou:PySem.W.codeIn K qop "Members.names" = true)
    (qov:PySem.W.keepIn K (.ref qoh)=true)
    {qow:Addr} {qox qoy:Option Addr} {qoz:Array (Option Value)} {qpa qpb qpc qpd qpe qpf:Value}
    (qpg:PySem.W.findIn K (.ref qlq) "share_of" = some (some (.ref qow)))
    (qph:PySem.W.isFn K (.ref qow)=true)
    (qpi:K.lookup qow=some ⟨qpa,qox,.func (PySem.W.fnOf "share_of" "Members.share_of" (zam zbo) (zaj zbo) (zab zbo) .none qpb qpc qpd qoy qpe qpf),qoz⟩)
    (qpj:PySem.W.codeIn K qpe "Members.share_of" = true)
    (qpk:PySem.W.keepIn K (.ref qow)=true)
    {qpl:Addr} {qpm qpn:Option Addr} {qpo:Array (Option Value)} {qpp qpq qpr qps qpt qpu:Value}
    (qpv:PySem.W.findIn K (.ref qlq) "all_shares" = some (some (.ref qpl)))
    (qpw:PySem.W.isFn K (.ref qpl)=true)
    (qpx:K.lookup qpl=some ⟨qpp,qpm,.func (PySem.W.fnOf "all_shares" "Members.all_shares" (zam zbi) (zaj zbi) (zab zbi) .none qpq qpr qps qpn qpt qpu),qpo⟩)
    (qpy:PySem.W.codeIn K qpt "Members.all_shares" = true)
    (qpz:PySem.W.keepIn K (.ref qpl)=true)
    {qqa:Addr} {qqb qqc:Option Addr} {qqd:Array (Option Value)} {qqe qqf qqg qqh qqi qqj:Value}
    (qqk:PySem.W.findIn K (.ref qlq) "part" = some (some (.ref qqa)))
    (qql:PySem.W.isFn K (.ref qqa)=true)
    (qqm:K.lookup qqa=some ⟨qqe,qqb,.func (PySem.W.fnOf "part" "Members.part" (zam zcq) (zaj zcq) (zab zcq) .none qqf qqg qqh qqc qqi qqj),qqd⟩)
    (qqn:PySem.W.codeIn K qqi "Members.part" = true)
    (qqo:PySem.W.keepIn K (.ref qqa)=true)
    {qqp:Addr}
    (qqq:PySem.W.nsIn K mainGlobals "Chooser" = some (some (.ref qqp)))
    {qqr:Addr}
    (qqs:PySem.W.nsIn K mainGlobals "Starts" = some (some (.ref qqr)))
    (qqt:PySem.W.plainGet K qqr Str.empty=true)
    (qqu:PySem.W.hasDictIn K qqr=true)
    (qqv:PySem.W.plainOver K qqr=true)
    (qqw:PySem.W.findIn K (.ref qqr) "__setattr__" = some (some (.builtin "object.__setattr__")))
    (qqx:PySem.W.makesIn K qqr=true)
    (qqy:PySem.W.keepIn K (.ref qqr)=true)
    (qqz:PySem.W.findIn K (.ref qqr) "reached" = some none)
    (qra:PySem.W.findIn K (.ref qqr) "tags" = some none)
    (qrb:PySem.W.findIn K (.ref qqr) "greatest_steps" = some none)
    (qrc:PySem.W.findIn K (.ref qqr) "most" = some none)
    (qrd:PySem.W.findIn K (.ref qqr) "members" = some none)
    (qre:PySem.W.findIn K (.ref qqr) "chosen" = some none)
    {qrf:Addr} {qrg qrh:Option Addr} {qri:Array (Option Value)} {qrj qrk qrl qrm qrn qro:Value}
    (qrp:PySem.W.findIn K (.ref qqr) "__init__" = some (some (.ref qrf)))
    (qrq:PySem.W.isFn K (.ref qrf)=true)
    (qrr:K.lookup qrf=some ⟨qrj,qrg,.func (PySem.W.fnOf "__init__" "Starts.__init__" (zam zcx) (zaj zcx) (zab zcx) .none qrk qrl qrm qrh qrn qro),qri⟩)
    (qrs:PySem.W.codeIn K qrn "Starts.__init__" = true)
    (qrt:PySem.W.keepIn K (.ref qrf)=true)
    {qru:Addr} {qrv qrw:Option Addr} {qrx:Array (Option Value)} {qry qrz qsa qsb qsc qsd:Value}
    (qse:PySem.W.findIn K (.ref qqr) "enter" = some (some (.ref qru)))
    (qsf:PySem.W.isFn K (.ref qru)=true)
    (qsg:K.lookup qru=some ⟨qry,qrv,.func (PySem.W.fnOf "enter" "Starts.enter" (zam zcr) (zaj zcr) (zab zcr) .none qrz qsa qsb qrw qsc qsd),qrx⟩)
    (qsh:PySem.W.codeIn K qsc "Starts.enter" = true)
    (qsi:PySem.W.keepIn K (.ref qru)=true)
    {qsj:Addr} {qsk qsl:Option Addr} {qsm:Array (Option Value)} {qsn qso qsp qsq qsr qss:Value}
    (qst:PySem.W.findIn K (.ref qqr) "fit_in" = some (some (.ref qsj)))
    (qsu:PySem.W.isFn K (.ref qsj)=true)
    (qsv:K.lookup qsj=some ⟨qsn,qsk,.func (PySem.W.fnOf "fit_in" "Starts.fit_in" (zam zch) (zaj zch) (zab zch) .none qso qsp qsq qsl qsr qss),qsm⟩)
    (qsw:PySem.W.codeIn K qsr "Starts.fit_in" = true)
    (qsx:PySem.W.keepIn K (.ref qsj)=true)
    {qsy:Addr} {qsz qta:Option Addr} {qtb:Array (Option Value)} {qtc qtd qte qtf qtg qth:Value}
    (qti:PySem.W.findIn K (.ref qqp) "__init__" = some (some (.ref qsy)))
    (qtj:PySem.W.isFn K (.ref qsy)=true)
    (qtk:K.lookup qsy=some ⟨qtc,qsz,.func (PySem.W.fnOf "__init__" "Chooser.__init__" (zam zbl) (zaj zbl) (zab zbl) .none qtd qte qtf qta qtg qth),qtb⟩)
    (qtl:PySem.W.codeIn K qtg "Chooser.__init__" = true)
    (qtm:PySem.W.readsIn K qqp (.type "type")=true)
    (qtn:PySem.W.findCls K (.ref qqp) (.type "type") "__init__" = some (.val (.ref qsy)))
    (qto:PySem.W.specialIn K (.ref qqp) "__getattribute__" = some (some (.builtin "type.__getattribute__")))
    (qtp:PySem.W.keepIn K (.ref qsy)=true)
    {qtq:Addr} {qtr qts:Option Addr} {qtt:Array (Option Value)} {qtu qtv qtw qtx qty qtz:Value}
    (qua:PySem.W.findIn K (.ref qqr) "put" = some (some (.ref qtq)))
    (qub:PySem.W.isFn K (.ref qtq)=true)
    (quc:K.lookup qtq=some ⟨qtu,qtr,.func (PySem.W.fnOf "put" "Chooser.put" (zam zdl) (zaj zdl) (zab zdl) .none qtv qtw qtx qts qty qtz),qtt⟩)
    (qud:PySem.W.codeIn K qty "Chooser.put" = true)
    (que:PySem.W.keepIn K (.ref qtq)=true)
    {quf:Addr} {qug quh:Option Addr} {qui:Array (Option Value)} {quj quk qul qum qun quo:Value}
    (qup:PySem.W.findIn K (.ref qqr) "reshare" = some (some (.ref quf)))
    (quq:PySem.W.isFn K (.ref quf)=true)
    (qur:K.lookup quf=some ⟨quj,qug,.func (PySem.W.fnOf "reshare" "Chooser.reshare" (zam zbx) (zaj zbx) (zab zbx) .none quk qul qum quh qun quo),qui⟩)
    (qus:PySem.W.codeIn K qun "Chooser.reshare" = true)
    (qut:PySem.W.keepIn K (.ref quf)=true)
    {quu:Addr} {quv quw:Option Addr} {qux:Array (Option Value)} {quy quz qva qvb qvc qvd:Value}
    (qve:PySem.W.findIn K (.ref qqr) "names" = some (some (.ref quu)))
    (qvf:PySem.W.isFn K (.ref quu)=true)
    (qvg:K.lookup quu=some ⟨quy,quv,.func (PySem.W.fnOf "names" "Chooser.names" (zam zdh) (zaj zdh) (zab zdh) .none quz qva qvb quw qvc qvd),qux⟩)
    (qvh:PySem.W.codeIn K qvc "Chooser.names" = true)
    (qvi:PySem.W.keepIn K (.ref quu)=true)
    {qvj:Addr} {qvk qvl:Option Addr} {qvm:Array (Option Value)} {qvn qvo qvp qvq qvr qvs:Value}
    (qvt:PySem.W.findIn K (.ref qqr) "share_of" = some (some (.ref qvj)))
    (qvu:PySem.W.isFn K (.ref qvj)=true)
    (qvv:K.lookup qvj=some ⟨qvn,qvk,.func (PySem.W.fnOf "share_of" "Chooser.share_of" (zam zce) (zaj zce) (zab zce) .none qvo qvp qvq qvl qvr qvs),qvm⟩)
    (qvw:PySem.W.codeIn K qvr "Chooser.share_of" = true)
    (qvx:PySem.W.keepIn K (.ref qvj)=true)
    {qvy:Addr} {qvz qwa:Option Addr} {qwb:Array (Option Value)} {qwc qwd qwe qwf qwg qwh:Value}
    (qwi:PySem.W.findIn K (.ref qqr) "part" = some (some (.ref qvy)))
    (qwj:PySem.W.isFn K (.ref qvy)=true)
    (qwk:K.lookup qvy=some ⟨qwc,qvz,.func (PySem.W.fnOf "part" "Chooser.part" (zam zcy) (zaj zcy) (zab zcy) .none qwd qwe qwf qwa qwg qwh),qwb⟩)
    (qwl:PySem.W.codeIn K qwg "Chooser.part" = true)
    (qwm:PySem.W.keepIn K (.ref qvy)=true)
    {qwn:Addr} {qwo qwp:Option Addr} {qwq:Array (Option Value)} {qwr qws qwt qwu qwv qww:Value}
    (qwx:PySem.W.findIn K (.ref qqr) "lack" = some (some (.ref qwn)))
    (qwy:PySem.W.isFn K (.ref qwn)=true)
    (qwz:K.lookup qwn=some ⟨qwr,qwo,.func (PySem.W.fnOf "lack" "Chooser.lack" (zam zcz) (zaj zcz) (zab zcz) .none qws qwt qwu qwp qwv qww),qwq⟩)
    (qxa:PySem.W.codeIn K qwv "Chooser.lack" = true)
    (qxb:PySem.W.keepIn K (.ref qwn)=true)
    {qxc:Addr}
    (qxd:PySem.W.nsIn K mainGlobals "Rounds" = some (some (.ref qxc)))
    (qxe:PySem.W.plainGet K qxc Str.empty=true)
    (qxf:PySem.W.hasDictIn K qxc=true)
    (qxg:PySem.W.plainOver K qxc=true)
    (qxh:PySem.W.findIn K (.ref qxc) "__setattr__" = some (some (.builtin "object.__setattr__")))
    (qxi:PySem.W.makesIn K qxc=true)
    (qxj:PySem.W.keepIn K (.ref qxc)=true)
    (qxk:PySem.W.findIn K (.ref qxc) "queue" = some none)
    (qxl:PySem.W.findIn K (.ref qxc) "rests" = some none)
    (qxm:PySem.W.findIn K (.ref qxc) "turn" = some none)
    (qxn:PySem.W.findIn K (.ref qxc) "most" = some none)
    (qxo:PySem.W.findIn K (.ref qxc) "members" = some none)
    (qxp:PySem.W.findIn K (.ref qxc) "chosen" = some none)
    {qxq:Addr} {qxr qxs:Option Addr} {qxt:Array (Option Value)} {qxu qxv qxw qxx qxy qxz:Value}
    (qya:PySem.W.findIn K (.ref qxc) "__init__" = some (some (.ref qxq)))
    (qyb:PySem.W.isFn K (.ref qxq)=true)
    (qyc:K.lookup qxq=some ⟨qxu,qxr,.func (PySem.W.fnOf "__init__" "Rounds.__init__" (zam zda) (zaj zda) (zab zda) .none qxv qxw qxx qxs qxy qxz),qxt⟩)
    (qyd:PySem.W.codeIn K qxy "Rounds.__init__" = true)
    (qye:PySem.W.keepIn K (.ref qxq)=true)
    {qyf:Addr} {qyg qyh:Option Addr} {qyi:Array (Option Value)} {qyj qyk qyl qym qyn qyo:Value}
    (qyp:PySem.W.findIn K (.ref qxc) "enter" = some (some (.ref qyf)))
    (qyq:PySem.W.isFn K (.ref qyf)=true)
    (qyr:K.lookup qyf=some ⟨qyj,qyg,.func (PySem.W.fnOf "enter" "Rounds.enter" (zam zcs) (zaj zcs) (zab zcs) .none qyk qyl qym qyh qyn qyo),qyi⟩)
    (qys:PySem.W.codeIn K qyn "Rounds.enter" = true)
    (qyt:PySem.W.keepIn K (.ref qyf)=true)
    {qyu:Addr} {qyv qyw:Option Addr} {qyx:Array (Option Value)} {qyy qyz qza qzb qzc qzd:Value}
    (qze:PySem.W.findIn K (.ref qxc) "full_rest" = some (some (.ref qyu)))
    (qzf:PySem.W.isFn K (.ref qyu)=true)
    (qzg:K.lookup qyu=some ⟨qyy,qyv,.func (PySem.W.fnOf "full_rest" "Rounds.full_rest" (zam zbp) (zaj zbp) (zab zbp) .none qyz qza qzb qyw qzc qzd),qyx⟩)
    (qzh:PySem.W.codeIn K qzc "Rounds.full_rest" = true)
    (qzi:PySem.W.keepIn K (.ref qyu)=true)
    {qzj:Addr} {qzk qzl:Option Addr} {qzm:Array (Option Value)} {qzn qzo qzp qzq qzr qzs:Value}
    (qzt:PySem.W.findIn K (.ref qxc) "fit_in" = some (some (.ref qzj)))
    (qzu:PySem.W.isFn K (.ref qzj)=true)
    (qzv:K.lookup qzj=some ⟨qzn,qzk,.func (PySem.W.fnOf "fit_in" "Rounds.fit_in" (zam zci) (zaj zci) (zab zci) .none qzo qzp qzq qzl qzr qzs),qzm⟩)
    (qzw:PySem.W.codeIn K qzr "Rounds.fit_in" = true)
    (qzx:PySem.W.keepIn K (.ref qzj)=true)
    {qzy:Addr} {qzz qbaa:Option Addr} {qbab:Array (Option Value)} {qbac qbad qbae qbaf qbag qbah:Value}
    (qbai:PySem.W.findIn K (.ref qqp) "__init__" = some (some (.ref qzy)))
    (qbaj:PySem.W.isFn K (.ref qzy)=true)
    (qbak:K.lookup qzy=some ⟨qbac,qzz,.func (PySem.W.fnOf "__init__" "Chooser.__init__" (zam zbm) (zaj zbm) (zab zbm) .none qbad qbae qbaf qbaa qbag qbah),qbab⟩)
    (qbal:PySem.W.codeIn K qbag "Chooser.__init__" = true)
    (qbam:PySem.W.readsIn K qqp (.type "type")=true)
    (qban:PySem.W.findCls K (.ref qqp) (.type "type") "__init__" = some (.val (.ref qzy)))
    (qbao:PySem.W.specialIn K (.ref qqp) "__getattribute__" = some (some (.builtin "type.__getattribute__")))
    (qbap:PySem.W.keepIn K (.ref qzy)=true)
    {qbaq:Addr} {qbar qbas:Option Addr} {qbat:Array (Option Value)} {qbau qbav qbaw qbax qbay qbaz:Value}
    (qbba:PySem.W.findIn K (.ref qxc) "put" = some (some (.ref qbaq)))
    (qbbb:PySem.W.isFn K (.ref qbaq)=true)
    (qbbc:K.lookup qbaq=some ⟨qbau,qbar,.func (PySem.W.fnOf "put" "Chooser.put" (zam zdm) (zaj zdm) (zab zdm) .none qbav qbaw qbax qbas qbay qbaz),qbat⟩)
    (qbbd:PySem.W.codeIn K qbay "Chooser.put" = true)
    (qbbe:PySem.W.keepIn K (.ref qbaq)=true)
    {qbbf:Addr} {qbbg qbbh:Option Addr} {qbbi:Array (Option Value)} {qbbj qbbk qbbl qbbm qbbn qbbo:Value}
    (qbbp:PySem.W.findIn K (.ref qxc) "reshare" = some (some (.ref qbbf)))
    (qbbq:PySem.W.isFn K (.ref qbbf)=true)
    (qbbr:K.lookup qbbf=some ⟨qbbj,qbbg,.func (PySem.W.fnOf "reshare" "Chooser.reshare" (zam zby) (zaj zby) (zab zby) .none qbbk qbbl qbbm qbbh qbbn qbbo),qbbi⟩)
    (qbbs:PySem.W.codeIn K qbbn "Chooser.reshare" = true)
    (qbbt:PySem.W.keepIn K (.ref qbbf)=true)
    {qbbu:Addr} {qbbv qbbw:Option Addr} {qbbx:Array (Option Value)} {qbby qbbz qbca qbcb qbcc qbcd:Value}
    (qbce:PySem.W.findIn K (.ref qxc) "names" = some (some (.ref qbbu)))
    (qbcf:PySem.W.isFn K (.ref qbbu)=true)
    (qbcg:K.lookup qbbu=some ⟨qbby,qbbv,.func (PySem.W.fnOf "names" "Chooser.names" (zam zdi) (zaj zdi) (zab zdi) .none qbbz qbca qbcb qbbw qbcc qbcd),qbbx⟩)
    (qbch:PySem.W.codeIn K qbcc "Chooser.names" = true)
    (qbci:PySem.W.keepIn K (.ref qbbu)=true)
    {qbcj:Addr} {qbck qbcl:Option Addr} {qbcm:Array (Option Value)} {qbcn qbco qbcp qbcq qbcr qbcs:Value}
    (qbct:PySem.W.findIn K (.ref qxc) "share_of" = some (some (.ref qbcj)))
    (qbcu:PySem.W.isFn K (.ref qbcj)=true)
    (qbcv:K.lookup qbcj=some ⟨qbcn,qbck,.func (PySem.W.fnOf "share_of" "Chooser.share_of" (zam zbv) (zaj zbv) (zab zbv) .none qbco qbcp qbcq qbcl qbcr qbcs),qbcm⟩)
    (qbcw:PySem.W.codeIn K qbcr "Chooser.share_of" = true)
    (qbcx:PySem.W.keepIn K (.ref qbcj)=true)
    {qbcy:Addr} {qbcz qbda:Option Addr} {qbdb:Array (Option Value)} {qbdc qbdd qbde qbdf qbdg qbdh:Value}
    (qbdi:PySem.W.findIn K (.ref qxc) "part" = some (some (.ref qbcy)))
    (qbdj:PySem.W.isFn K (.ref qbcy)=true)
    (qbdk:K.lookup qbcy=some ⟨qbdc,qbcz,.func (PySem.W.fnOf "part" "Chooser.part" (zam zdb) (zaj zdb) (zab zdb) .none qbdd qbde qbdf qbda qbdg qbdh),qbdb⟩)
    (qbdl:PySem.W.codeIn K qbdg "Chooser.part" = true)
    (qbdm:PySem.W.keepIn K (.ref qbcy)=true)
    {qbdn:Addr} {qbdo qbdp:Option Addr} {qbdq:Array (Option Value)} {qbdr qbds qbdt qbdu qbdv qbdw:Value}
    (qbdx:PySem.W.findIn K (.ref qxc) "lack" = some (some (.ref qbdn)))
    (qbdy:PySem.W.isFn K (.ref qbdn)=true)
    (qbdz:K.lookup qbdn=some ⟨qbdr,qbdo,.func (PySem.W.fnOf "lack" "Chooser.lack" (zam zdc) (zaj zdc) (zab zdc) .none qbds qbdt qbdu qbdp qbdv qbdw),qbdq⟩)
    (qbea:PySem.W.codeIn K qbdv "Chooser.lack" = true)
    (qbeb:PySem.W.keepIn K (.ref qbdn)=true)
    {qbec:Addr}
    (qbed:PySem.W.nsIn K mainGlobals "Node" = some (some (.ref qbec)))
    (qbee:PySem.W.plainGet K qbec Str.empty=true)
    (qbef:PySem.W.hasDictIn K qbec=true)
    (qbeg:PySem.W.plainOver K qbec=true)
    (qbeh:PySem.W.findIn K (.ref qbec) "__setattr__" = some (some (.builtin "object.__setattr__")))
    (qbei:PySem.W.makesIn K qbec=true)
    (qbej:PySem.W.keepIn K (.ref qbec)=true)
    (qbek:PySem.W.findIn K (.ref qbec) "above" = some none)
    (qbel:PySem.W.findIn K (.ref qbec) "chooser" = some none)
    (qbem:PySem.W.findIn K (.ref qbec) "room" = some none)
    (qben:PySem.W.findIn K (.ref qbec) "bucket" = some none)
    (qbeo:PySem.W.findIn K (.ref qbec) "queue" = some none)
    {qbep:Addr} {qbeq qber:Option Addr} {qbes:Array (Option Value)} {qbet qbeu qbev qbew qbex qbey:Value}
    {qbez:Addr} {qbfa:Value} {qbfb:Option Addr} {qbfc:Nat} {qbfd:Array (Option Value)}
    (qbfe:PySem.W.findIn K (.ref qbec) "__init__" = some (some (.ref qbep)))
    (qbff:PySem.W.isFn K (.ref qbep)=true)
    (qbfg:K.lookup qbep=some ⟨qbet,qbeq,.func (PySem.W.fnOf "__init__" "Node.__init__" (zam zbz) (zaj zbz) (zab zbz) (.ref qbez) qbeu qbev qbew qber qbex qbey),qbes⟩)
    (qbfh:PySem.W.codeIn K qbex "Node.__init__" = true)
    (qbfi:PySem.W.keepIn K (.ref qbep)=true)
    (qbfj:K.lookup qbez=some ⟨qbfa,qbfb,.seq #[.none] qbfc,qbfd⟩)
    {qbfk:Addr}
    (qbfl:PySem.W.nsIn K mainGlobals "Tree" = some (some (.ref qbfk)))
    (qbfm:PySem.W.plainGet K qbfk Str.empty=true)
    (qbfn:PySem.W.hasDictIn K qbfk=true)
    (qbfo:PySem.W.plainOver K qbfk=true)
    (qbfp:PySem.W.findIn K (.ref qbfk) "__setattr__" = some (some (.builtin "object.__setattr__")))
    (qbfq:PySem.W.makesIn K qbfk=true)
    (qbfr:PySem.W.keepIn K (.ref qbfk)=true)
    (qbfs:PySem.W.findIn K (.ref qbfk) "most" = some none)
    (qbft:PySem.W.findIn K (.ref qbfk) "nodes" = some none)
    (qbfu:PySem.W.findIn K (.ref qbfk) "time" = some none)
    (qbfv:PySem.W.findIn K (.ref qbfk) "free" = some none)
    (qbfw:PySem.W.findIn K (.ref qbfk) "counted" = some none)
    (qbfx:PySem.W.findIn K (.ref qbfk) "gone" = some none)
    {qbfy:Addr} {qbfz qbga:Option Addr} {qbgb:Array (Option Value)} {qbgc qbgd qbge qbgf qbgg qbgh:Value}
    {qbgi:Addr} {qbgj:Value} {qbgk:Option Addr} {qbgl:Nat} {qbgm:Array (Option Value)} {qbgn:Tok}
    (qbgo:PySem.W.findIn K (.ref qbfk) "__init__" = some (some (.ref qbfy)))
    (qbgp:PySem.W.isFn K (.ref qbfy)=true)
    (qbgq:K.lookup qbfy=some ⟨qbgc,qbfz,.func (PySem.W.fnOf "__init__" "Tree.__init__" (zam zca) (zaj zca) (zab zca) (.ref qbgi) qbgd qbge qbgf qbga qbgg qbgh),qbgb⟩)
    (qbgr:PySem.W.codeIn K qbgg "Tree.__init__" = true)
    (qbgs:PySem.W.keepIn K (.ref qbfy)=true)
    (qbgt:K.lookup qbgi=some ⟨qbgj,qbgk,.seq #[.str (Str.ofString "starts") qbgn] qbgl,qbgm⟩)
    {qbgu:Addr} {qbgv qbgw:Option Addr} {qbgx:Array (Option Value)} {qbgy qbgz qbha qbhb qbhc qbhd:Value}
    (qbhe:PySem.W.findIn K (.ref qbfk) "check_class" = some (some (.ref qbgu)))
    (qbhf:PySem.W.isFn K (.ref qbgu)=true)
    (qbhg:K.lookup qbgu=some ⟨qbgy,qbgv,.func (PySem.W.fnOf "check_class" "Tree.check_class" (zam zbq) (zaj zbq) (zab zbq) .none qbgz qbha qbhb qbgw qbhc qbhd),qbgx⟩)
    (qbhh:PySem.W.codeIn K qbhc "Tree.check_class" = true)
    (qbhi:PySem.W.keepIn K (.ref qbgu)=true)
    {qbhj:Addr} {qbhk qbhl:Option Addr} {qbhm:Array (Option Value)} {qbhn qbho qbhp qbhq qbhr qbhs:Value}
    (qbht:PySem.W.findIn K (.ref qbfk) "check_place" = some (some (.ref qbhj)))
    (qbhu:PySem.W.isFn K (.ref qbhj)=true)
    (qbhv:K.lookup qbhj=some ⟨qbhn,qbhk,.func (PySem.W.fnOf "check_place" "Tree.check_place" (zam zbr) (zaj zbr) (zab zbr) .none qbho qbhp qbhq qbhl qbhr qbhs),qbhm⟩)
    (qbhw:PySem.W.codeIn K qbhr "Tree.check_place" = true)
    (qbhx:PySem.W.keepIn K (.ref qbhj)=true)
    {qbhy:Addr} {qbhz qbia:Option Addr} {qbib:Array (Option Value)} {qbic qbid qbie qbif qbig qbih:Value}
    {qbii:Addr} {qbij:Value} {qbik:Option Addr} {qbil:Nat} {qbim:Array (Option Value)}
    (qbin:PySem.W.findIn K (.ref qbfk) "put" = some (some (.ref qbhy)))
    (qbio:PySem.W.isFn K (.ref qbhy)=true)
    (qbip:K.lookup qbhy=some ⟨qbic,qbhz,.func (PySem.W.fnOf "put" "Tree.put" (zam zcn) (zaj zcn) (zab zcn) (.ref qbii) qbid qbie qbif qbia qbig qbih),qbib⟩)
    (qbiq:PySem.W.codeIn K qbig "Tree.put" = true)
    (qbir:PySem.W.keepIn K (.ref qbhy)=true)
    (qbis:K.lookup qbii=some ⟨qbij,qbik,.seq #[.none] qbil,qbim⟩)
    {qbit:Addr} {qbiu qbiv:Option Addr} {qbiw:Array (Option Value)} {qbix qbiy qbiz qbja qbjb qbjc:Value}
    (qbjd:PySem.W.findIn K (.ref qbfk) "reshare" = some (some (.ref qbit)))
    (qbje:PySem.W.isFn K (.ref qbit)=true)
    (qbjf:K.lookup qbit=some ⟨qbix,qbiu,.func (PySem.W.fnOf "reshare" "Tree.reshare" (zam zct) (zaj zct) (zab zct) .none qbiy qbiz qbja qbiv qbjb qbjc),qbiw⟩)
    (qbjg:PySem.W.codeIn K qbjb "Tree.reshare" = true)
    (qbjh:PySem.W.keepIn K (.ref qbit)=true)
    {qbji:Addr} {qbjj qbjk:Option Addr} {qbjl:Array (Option Value)} {qbjm qbjn qbjo qbjp qbjq qbjr:Value}
    (qbjs:PySem.W.findIn K (.ref qbfk) "curb" = some (some (.ref qbji)))
    (qbjt:PySem.W.isFn K (.ref qbji)=true)
    (qbju:K.lookup qbji=some ⟨qbjm,qbjj,.func (PySem.W.fnOf "curb" "Tree.curb" (zam zdu) (zaj zdu) (zab zdu) .none qbjn qbjo qbjp qbjk qbjq qbjr),qbjl⟩)
    (qbjv:PySem.W.codeIn K qbjq "Tree.curb" = true)
    (qbjw:PySem.W.keepIn K (.ref qbji)=true)
    {qbjx:Addr} {qbjy qbjz:Option Addr} {qbka:Array (Option Value)} {qbkb qbkc qbkd qbke qbkf qbkg:Value}
    (qbkh:PySem.W.findIn K (.ref qbfk) "uncurb" = some (some (.ref qbjx)))
    (qbki:PySem.W.isFn K (.ref qbjx)=true)
    (qbkj:K.lookup qbjx=some ⟨qbkb,qbjy,.func (PySem.W.fnOf "uncurb" "Tree.uncurb" (zam zdd) (zaj zdd) (zab zdd) .none qbkc qbkd qbke qbjz qbkf qbkg),qbka⟩)
    (qbkk:PySem.W.codeIn K qbkf "Tree.uncurb" = true)
    (qbkl:PySem.W.keepIn K (.ref qbjx)=true)
    {qbkm:Addr} {qbkn qbko:Option Addr} {qbkp:Array (Option Value)} {qbkq qbkr qbks qbkt qbku qbkv:Value}
    (qbkw:PySem.W.findIn K (.ref qbfk) "curbed" = some (some (.ref qbkm)))
    (qbkx:PySem.W.isFn K (.ref qbkm)=true)
    (qbky:K.lookup qbkm=some ⟨qbkq,qbkn,.func (PySem.W.fnOf "curbed" "Tree.curbed" (zam zde) (zaj zde) (zab zde) .none qbkr qbks qbkt qbko qbku qbkv),qbkp⟩)
    (qbkz:PySem.W.codeIn K qbku "Tree.curbed" = true)
    (qbla:PySem.W.keepIn K (.ref qbkm)=true)
    {qblb:Addr} {qblc qbld:Option Addr} {qble:Array (Option Value)} {qblf qblg qblh qbli qblj qblk:Value}
    (qbll:PySem.W.findIn K (.ref qbfk) "until" = some (some (.ref qblb)))
    (qblm:PySem.W.isFn K (.ref qblb)=true)
    (qbln:K.lookup qblb=some ⟨qblf,qblc,.func (PySem.W.fnOf "until" "Tree.until" (zam zdn) (zaj zdn) (zab zdn) .none qblg qblh qbli qbld qblj qblk),qble⟩)
    (qblo:PySem.W.codeIn K qblj "Tree.until" = true)
    (qblp:PySem.W.keepIn K (.ref qblb)=true)
    {qblq:Addr} {qblr qbls:Option Addr} {qblt:Array (Option Value)} {qblu qblv qblw qblx qbly qblz:Value}
    (qbma:PySem.W.findIn K (.ref qbfk) "way" = some (some (.ref qblq)))
    (qbmb:PySem.W.isFn K (.ref qblq)=true)
    (qbmc:K.lookup qblq=some ⟨qblu,qblr,.func (PySem.W.fnOf "way" "Tree.way" (zam zet) (zaj zet) (zab zet) .none qblv qblw qblx qbls qbly qblz),qblt⟩)
    (qbmd:PySem.W.codeIn K qbly "Tree.way" = true)
    (qbme:PySem.W.keepIn K (.ref qblq)=true)
    {qbmf:Addr} {qbmg qbmh:Option Addr} {qbmi:Array (Option Value)} {qbmj qbmk qbml qbmm qbmn qbmo:Value}
    (qbmp:PySem.W.findIn K (.ref qbfk) "below" = some (some (.ref qbmf)))
    (qbmq:PySem.W.isFn K (.ref qbmf)=true)
    (qbmr:K.lookup qbmf=some ⟨qbmj,qbmg,.func (PySem.W.fnOf "below" "Tree.below" (zam zeg) (zaj zeg) (zab zeg) .none qbmk qbml qbmm qbmh qbmn qbmo),qbmi⟩)
    (qbms:PySem.W.codeIn K qbmn "Tree.below" = true)
    (qbmt:PySem.W.keepIn K (.ref qbmf)=true)
    {qbmu:Addr} {qbmv qbmw:Option Addr} {qbmx:Array (Option Value)} {qbmy qbmz qbna qbnb qbnc qbnd:Value}
    (qbne:PySem.W.findIn K (.ref qbfk) "may_go" = some (some (.ref qbmu)))
    (qbnf:PySem.W.isFn K (.ref qbmu)=true)
    (qbng:K.lookup qbmu=some ⟨qbmy,qbmv,.func (PySem.W.fnOf "may_go" "Tree.may_go" (zam zdf) (zaj zdf) (zab zdf) .none qbmz qbna qbnb qbmw qbnc qbnd),qbmx⟩)
    (qbnh:PySem.W.codeIn K qbnc "Tree.may_go" = true)
    (qbni:PySem.W.keepIn K (.ref qbmu)=true)
    {qbnj:Addr} {qbnk qbnl:Option Addr} {qbnm:Array (Option Value)} {qbnn qbno qbnp qbnq qbnr qbns:Value}
    (qbnt:PySem.W.findIn K (.ref qbfk) "part" = some (some (.ref qbnj)))
    (qbnu:PySem.W.isFn K (.ref qbnj)=true)
    (qbnv:K.lookup qbnj=some ⟨qbnn,qbnk,.func (PySem.W.fnOf "part" "Tree.part" (zam zdv) (zaj zdv) (zab zdv) .none qbno qbnp qbnq qbnl qbnr qbns),qbnm⟩)
    (qbnw:PySem.W.codeIn K qbnr "Tree.part" = true)
    (qbnx:PySem.W.keepIn K (.ref qbnj)=true)
    {qbny:Addr} {qbnz qboa:Option Addr} {qbob:Array (Option Value)} {qboc qbod qboe qbof qbog qboh:Value}
    (qboi:PySem.W.findIn K (.ref qbfk) "lack" = some (some (.ref qbny)))
    (qboj:PySem.W.isFn K (.ref qbny)=true)
    (qbok:K.lookup qbny=some ⟨qboc,qbnz,.func (PySem.W.fnOf "lack" "Tree.lack" (zam zdw) (zaj zdw) (zab zdw) .none qbod qboe qbof qboa qbog qboh),qbob⟩)
    (qbol:PySem.W.codeIn K qbog "Tree.lack" = true)
    (qbom:PySem.W.keepIn K (.ref qbny)=true)
    {qbon:Addr} {qboo qbop:Option Addr} {qboq:Array (Option Value)} {qbor qbos qbot qbou qbov qbow:Value}
    (qbox:PySem.W.findIn K (.ref qbfk) "chooser_over" = some (some (.ref qbon)))
    (qboy:PySem.W.isFn K (.ref qbon)=true)
    (qboz:K.lookup qbon=some ⟨qbor,qboo,.func (PySem.W.fnOf "chooser_over" "Tree.chooser_over" (zam zbn) (zaj zbn) (zab zbn) .none qbos qbot qbou qbop qbov qbow),qboq⟩)
    (qbpa:PySem.W.codeIn K qbov "Tree.chooser_over" = true)
    (qbpb:PySem.W.keepIn K (.ref qbon)=true)
    {qbpc:Addr} {qbpd qbpe:Option Addr} {qbpf:Array (Option Value)} {qbpg qbph qbpi qbpj qbpk qbpl:Value}
    (qbpm:PySem.W.findIn K (.ref qbfk) "from_road" = some (some (.ref qbpc)))
    (qbpn:PySem.W.isFn K (.ref qbpc)=true)
    (qbpo:K.lookup qbpc=some ⟨qbpg,qbpd,.func (PySem.W.fnOf "from_road" "Tree.from_road" (zam zcb) (zaj zcb) (zab zcb) .none qbph qbpi qbpj qbpe qbpk qbpl),qbpf⟩)
    (qbpp:PySem.W.codeIn K qbpk "Tree.from_road" = true)
    (qbpq:PySem.W.keepIn K (.ref qbpc)=true)
    {qbpr:Addr} {qbps qbpt:Option Addr} {qbpu:Array (Option Value)} {qbpv qbpw qbpx qbpy qbpz qbqa:Value}
    (qbqb:PySem.W.findIn K (.ref qbfk) "full_leaves" = some (some (.ref qbpr)))
    (qbqc:PySem.W.isFn K (.ref qbpr)=true)
    (qbqd:K.lookup qbpr=some ⟨qbpv,qbps,.func (PySem.W.fnOf "full_leaves" "Tree.full_leaves" (zam zbs) (zaj zbs) (zab zbs) .none qbpw qbpx qbpy qbpt qbpz qbqa),qbpu⟩)
    (qbqe:PySem.W.codeIn K qbpz "Tree.full_leaves" = true)
    (qbqf:PySem.W.keepIn K (.ref qbpr)=true)
    {qbqg:Addr} {qbqh qbqi:Option Addr} {qbqj:Array (Option Value)} {qbqk qbql qbqm qbqn qbqo qbqp:Value}
    (qbqq:PySem.W.findIn K (.ref qbfk) "ready_at" = some (some (.ref qbqg)))
    (qbqr:PySem.W.isFn K (.ref qbqg)=true)
    (qbqs:K.lookup qbqg=some ⟨qbqk,qbqh,.func (PySem.W.fnOf "ready_at" "Tree.ready_at" (zam zcj) (zaj zcj) (zab zcj) .none qbql qbqm qbqn qbqi qbqo qbqp),qbqj⟩)
    (qbqt:PySem.W.codeIn K qbqo "Tree.ready_at" = true)
    (qbqu:PySem.W.keepIn K (.ref qbqg)=true)
    {qbqv:Addr} {qbqw qbqx:Option Addr} {qbqy:Array (Option Value)} {qbqz qbra qbrb qbrc qbrd qbre:Value}
    (qbrf:PySem.W.findIn K (.ref qbfk) "next_choice" = some (some (.ref qbqv)))
    (qbrg:PySem.W.isFn K (.ref qbqv)=true)
    (qbrh:K.lookup qbqv=some ⟨qbqz,qbqw,.func (PySem.W.fnOf "next_choice" "Tree.next_choice" (zam zbt) (zaj zbt) (zab zbt) .none qbra qbrb qbrc qbqx qbrd qbre),qbqy⟩)
    (qbri:PySem.W.codeIn K qbrd "Tree.next_choice" = true)
    (qbrj:PySem.W.keepIn K (.ref qbqv)=true)
    {qbrk:ClassData}
    (qbrl:PySem.W.clsIn K qqp=some qbrk)
    (qbrm:PySem.W.typeIn K (.ref qqp)=some (.type "type"))
    (qbrn:PySem.W.findIn K (.ref qqr) "__class__" = some (some (.builtin "object.__class__")))
    (qbro:PySem.W.mroIn K qqr (.type "object")=some true)
    (qbrp:PySem.W.subIn K (.ref qqr) (.ref qqp)=some true)
    (qbrq:(Value.ref qqr == Value.ref qqp)=false)
    (qbrr:PySem.W.findIn K (.ref qxc) "__class__" = some (some (.builtin "object.__class__")))
    (qbrs:PySem.W.mroIn K qxc (.type "object")=some true)
    (qbrt:PySem.W.subIn K (.ref qxc) (.ref qqp)=some true)
    (qbru:(Value.ref qxc == Value.ref qqp)=false)
    : ∃ fd:FuncData,(∀ (s:Shared) (v:Value),BindsTo s fd ⟨[v],[]⟩ [("_law_script", v)])/\∀ base:Heap,K.In base->base.Ns mainGlobals mg->FnOk l.prog w K mg base CX0 10 fa fd ["_law_script"] (spLaw K):=by
  have e:=hfa.symm.trans (PySem.W.mg_of X G a20)
  cases e
  have qbrv:XC K qek:=⟨qfd,qfe,qff,qfg,qfh,kg,kt,qfi,qfj,zey qfn⟩
  have qbrw:XC K qel:=⟨qfp,qfq,qfr,qfs,qft,kg,kt,qfu,qfv,zey qfz⟩
  have qbrx:XC K qem:=⟨qgb,qgc,qgd,qge,qgf,kg,kt,qgg,qgh,zey qgl⟩
  have qbry:XC K qen:=⟨qgn,qgo,qgp,qgq,qgr,kg,kt,qgs,qgt,zey qgx⟩
  have qbrz:XC K qeo:=⟨qgz,qha,qhb,qhc,qhd,kg,kt,qhe,qhf,zey qhj⟩
  have qbsa:XC K qep:=⟨qhl,qhm,qhn,qho,qhp,kg,kt,qhq,qhr,zey qhv⟩
  have qbsb:XC K qeq:=⟨qhx,qhy,qhz,qia,qib,kg,kt,qic,qid,zey qih⟩
  have qbsc:XC K qer:=⟨qij,qik,qil,qim,qin,kg,kt,qio,qip,zey qit⟩
  have qbsd:XC K qes:=⟨qiv,qiw,qix,qiy,qiz,kg,kt,qja,qjb,zey qjf⟩
  have F1:=zau (st:=zfj) l1 c1 k1
  have F2:=zau (st:=zht) l2 c2 k2
  have F3:=zau (st:=zhu) l3 c3 k3
  have F4:=zau (st:=zdo) l4 c4 k4
  have F5:=zau (st:=zeb) l5 c5 k5
  have F6:=zau (st:=zfk) l6 c6 k6
  have F7:=zau (st:=zec) l7 c7 k7
  have F8:=zau (st:=zdg) l8 c8 k8
  have F9:=zau (st:=zdp) l9 c9 k9
  have F10:=zau (st:=zed) l10 c10 k10
  have F11:=zau (st:=zep) l11 c11 k11
  have F12:=zau (st:=zdq) l12 c12 k12
  have F13:=zau (st:=zee) l13 c13 k13
  have F14:=zau (st:=zeq) l14 c14 k14
  have F15:=zau (st:=zdr) l15 c15 k15
  have F16:=zau (st:=zer) l16 c16 k16
  have F17:=zau (st:=zds) l17 c17 k17
  have F18:=zau (st:=zef) l18 c18 k18
  have F19:=zau (st:=zes) l19 c19 k19
  have qbse:=zat (st:=zbk) qlm qln
  have qbsf:Binds K _ ["self", "depth", "rate", "start"] []:=zea (fd:=PySem.W.fnOf "__init__" "Bucket.__init__" (zam zbk) (zaj zbk) (zab zbk) (.ref qle) qkz qla qlb qkw qlc qld) rfl qlp (fun us hl=>match us,(show us.length = 4 by simpa using hl) with | [_,_,_,_],_=>⟨_,rfl,rfl⟩)
  have qbsg:Binds K _ ["self", "depth", "rate", "start"] [.int 0 qlj]:=zea (fd:=PySem.W.fnOf "__init__" "Bucket.__init__" (zam zbk) (zaj zbk) (zab zbk) (.ref qle) qkz qla qlb qkw qlc qld) rfl qlp (fun us hl=>match us,(show us.length = 3 by simpa using hl) with | [_,_,_],_=>⟨_,rfl,rfl⟩)
  have qbsh:=zat (st:=zcp) qml qmm
  have qbsi:=(zau (st:=zcp) qml qmm qmn).binds (ps:=["self"]) (fun _ _ _ _ _ _=>L2.el1 (fun _=>rfl))
  have qbsj:=zat (st:=zbh) qna qnb
  have qbsk:=(zau (st:=zbh) qna qnb qnc).binds (ps:=["self", "name"]) (fun _ _ _ _ _ _=>L2.el2 (fun _ _=>rfl))
  have qbsl:=zat (st:=zcw) qnp qnq
  have qbsm:=(zau (st:=zcw) qnp qnq qnr).binds (ps:=["self", "name", "share"]) (fun _ _ _ _ _ _=>L2.el3 (fun _ _ _=>rfl))
  have qbsn:=zat (st:=zbu) qoe qof
  have qbso:=(zau (st:=zbu) qoe qof qog).binds (ps:=["self", "name", "share"]) (fun _ _ _ _ _ _=>L2.el3 (fun _ _ _=>rfl))
  have qbsp:=zat (st:=zcv) qot qou
  have qbsq:=(zau (st:=zcv) qot qou qov).binds (ps:=["self"]) (fun _ _ _ _ _ _=>L2.el1 (fun _=>rfl))
  have qbsr:=zat (st:=zbo) qpi qpj
  have qbss:=(zau (st:=zbo) qpi qpj qpk).binds (ps:=["self", "name"]) (fun _ _ _ _ _ _=>L2.el2 (fun _ _=>rfl))
  have qbst:=zat (st:=zbi) qpx qpy
  have qbsu:=(zau (st:=zbi) qpx qpy qpz).binds (ps:=["self"]) (fun _ _ _ _ _ _=>L2.el1 (fun _=>rfl))
  have qbsv:=zat (st:=zcq) qqm qqn
  have qbsw:=(zau (st:=zcq) qqm qqn qqo).binds (ps:=["self", "name"]) (fun _ _ _ _ _ _=>L2.el2 (fun _ _=>rfl))
  have qbsx:=zat (st:=zcx) qrr qrs
  have qbsy:=(zau (st:=zcx) qrr qrs qrt).binds (ps:=["self", "most"]) (fun _ _ _ _ _ _=>L2.el2 (fun _ _=>rfl))
  have qbsz:=zat (st:=zcr) qsg qsh
  have qbta:=(zau (st:=zcr) qsg qsh qsi).binds (ps:=["self", "name"]) (fun _ _ _ _ _ _=>L2.el2 (fun _ _=>rfl))
  have qbtb:=zat (st:=zch) qsv qsw
  have qbtc:=(zau (st:=zch) qsv qsw qsx).binds (ps:=["self", "name"]) (fun _ _ _ _ _ _=>L2.el2 (fun _ _=>rfl))
  have qbtd:=zat (st:=zbl) qtk qtl
  have qbte:=(zau (st:=zbl) qtk qtl qtp).binds (ps:=["self", "most"]) (fun _ _ _ _ _ _=>L2.el2 (fun _ _=>rfl))
  have qbtf:=zat (st:=zdl) quc qud
  have qbtg:=(zau (st:=zdl) quc qud que).binds (ps:=["self", "name", "share"]) (fun _ _ _ _ _ _=>L2.el3 (fun _ _ _=>rfl))
  have qbth:=zat (st:=zbx) qur qus
  have qbti:=(zau (st:=zbx) qur qus qut).binds (ps:=["self", "name", "share"]) (fun _ _ _ _ _ _=>L2.el3 (fun _ _ _=>rfl))
  have qbtj:=zat (st:=zdh) qvg qvh
  have qbtk:=(zau (st:=zdh) qvg qvh qvi).binds (ps:=["self"]) (fun _ _ _ _ _ _=>L2.el1 (fun _=>rfl))
  have qbtl:=zat (st:=zce) qvv qvw
  have qbtm:=(zau (st:=zce) qvv qvw qvx).binds (ps:=["self", "name"]) (fun _ _ _ _ _ _=>L2.el2 (fun _ _=>rfl))
  have qbtn:=zat (st:=zcy) qwk qwl
  have qbto:=(zau (st:=zcy) qwk qwl qwm).binds (ps:=["self", "name"]) (fun _ _ _ _ _ _=>L2.el2 (fun _ _=>rfl))
  have qbtp:=zat (st:=zcz) qwz qxa
  have qbtq:=(zau (st:=zcz) qwz qxa qxb).binds (ps:=["self", "name"]) (fun _ _ _ _ _ _=>L2.el2 (fun _ _=>rfl))
  have qbtr:=zat (st:=zda) qyc qyd
  have qbts:=(zau (st:=zda) qyc qyd qye).binds (ps:=["self", "most"]) (fun _ _ _ _ _ _=>L2.el2 (fun _ _=>rfl))
  have qbtt:=zat (st:=zcs) qyr qys
  have qbtu:=(zau (st:=zcs) qyr qys qyt).binds (ps:=["self", "name"]) (fun _ _ _ _ _ _=>L2.el2 (fun _ _=>rfl))
  have qbtv:=zat (st:=zbp) qzg qzh
  have qbtw:=(zau (st:=zbp) qzg qzh qzi).binds (ps:=["self", "name"]) (fun _ _ _ _ _ _=>L2.el2 (fun _ _=>rfl))
  have qbtx:=zat (st:=zci) qzv qzw
  have qbty:=(zau (st:=zci) qzv qzw qzx).binds (ps:=["self", "name"]) (fun _ _ _ _ _ _=>L2.el2 (fun _ _=>rfl))
  have qbtz:=zat (st:=zbm) qbak qbal
  have qbua:=(zau (st:=zbm) qbak qbal qbap).binds (ps:=["self", "most"]) (fun _ _ _ _ _ _=>L2.el2 (fun _ _=>rfl))
  have qbub:=zat (st:=zdm) qbbc qbbd
  have qbuc:=(zau (st:=zdm) qbbc qbbd qbbe).binds (ps:=["self", "name", "share"]) (fun _ _ _ _ _ _=>L2.el3 (fun _ _ _=>rfl))
  have qbud:=zat (st:=zby) qbbr qbbs
  have qbue:=(zau (st:=zby) qbbr qbbs qbbt).binds (ps:=["self", "name", "share"]) (fun _ _ _ _ _ _=>L2.el3 (fun _ _ _=>rfl))
  have qbuf:=zat (st:=zdi) qbcg qbch
  have qbug:=(zau (st:=zdi) qbcg qbch qbci).binds (ps:=["self"]) (fun _ _ _ _ _ _=>L2.el1 (fun _=>rfl))
  have qbuh:=zat (st:=zbv) qbcv qbcw
  have qbui:=(zau (st:=zbv) qbcv qbcw qbcx).binds (ps:=["self", "name"]) (fun _ _ _ _ _ _=>L2.el2 (fun _ _=>rfl))
  have qbuj:=zat (st:=zdb) qbdk qbdl
  have qbuk:=(zau (st:=zdb) qbdk qbdl qbdm).binds (ps:=["self", "name"]) (fun _ _ _ _ _ _=>L2.el2 (fun _ _=>rfl))
  have qbul:=zat (st:=zdc) qbdz qbea
  have qbum:=(zau (st:=zdc) qbdz qbea qbeb).binds (ps:=["self", "name"]) (fun _ _ _ _ _ _=>L2.el2 (fun _ _=>rfl))
  have qbun:=zat (st:=zbz) qbfg qbfh
  have qbuo:Binds K _ ["self", "above", "chooser", "room"] []:=zea (fd:=PySem.W.fnOf "__init__" "Node.__init__" (zam zbz) (zaj zbz) (zab zbz) (.ref qbez) qbeu qbev qbew qber qbex qbey) rfl qbfj (fun us hl=>match us,(show us.length = 4 by simpa using hl) with | [_,_,_,_],_=>⟨_,rfl,rfl⟩)
  have qbup:Binds K _ ["self", "above", "chooser", "room"] [.none]:=zea (fd:=PySem.W.fnOf "__init__" "Node.__init__" (zam zbz) (zaj zbz) (zab zbz) (.ref qbez) qbeu qbev qbew qber qbex qbey) rfl qbfj (fun us hl=>match us,(show us.length = 3 by simpa using hl) with | [_,_,_],_=>⟨_,rfl,rfl⟩)
  have qbuq:=zat (st:=zca) qbgq qbgr
  have qbur:Binds K _ ["self", "most", "kind"] []:=zea (fd:=PySem.W.fnOf "__init__" "Tree.__init__" (zam zca) (zaj zca) (zab zca) (.ref qbgi) qbgd qbge qbgf qbga qbgg qbgh) rfl qbgt (fun us hl=>match us,(show us.length = 3 by simpa using hl) with | [_,_,_],_=>⟨_,rfl,rfl⟩)
  have qbus:Binds K _ ["self", "most", "kind"] [.str (Str.ofString "starts") qbgn]:=zea (fd:=PySem.W.fnOf "__init__" "Tree.__init__" (zam zca) (zaj zca) (zab zca) (.ref qbgi) qbgd qbge qbgf qbga qbgg qbgh) rfl qbgt (fun us hl=>match us,(show us.length = 2 by simpa using hl) with | [_,_],_=>⟨_,rfl,rfl⟩)
  have qbut:=zat (st:=zbq) qbhg qbhh
  have qbuu:=(zau (st:=zbq) qbhg qbhh qbhi).binds (ps:=["self", "name"]) (fun _ _ _ _ _ _=>L2.el2 (fun _ _=>rfl))
  have qbuv:=zat (st:=zbr) qbhv qbhw
  have qbuw:=(zau (st:=zbr) qbhv qbhw qbhx).binds (ps:=["self", "under", "kind"]) (fun _ _ _ _ _ _=>L2.el3 (fun _ _ _=>rfl))
  have qbux:=zat (st:=zcn) qbip qbiq
  have qbuy:Binds K _ ["self", "name", "under", "kind", "share", "room"] []:=zea (fd:=PySem.W.fnOf "put" "Tree.put" (zam zcn) (zaj zcn) (zab zcn) (.ref qbii) qbid qbie qbif qbia qbig qbih) rfl qbis (fun us hl=>match us,(show us.length = 6 by simpa using hl) with | [_,_,_,_,_,_],_=>⟨_,rfl,rfl⟩)
  have qbuz:Binds K _ ["self", "name", "under", "kind", "share", "room"] [.none]:=zea (fd:=PySem.W.fnOf "put" "Tree.put" (zam zcn) (zaj zcn) (zab zcn) (.ref qbii) qbid qbie qbif qbia qbig qbih) rfl qbis (fun us hl=>match us,(show us.length = 5 by simpa using hl) with | [_,_,_,_,_],_=>⟨_,rfl,rfl⟩)
  have qbva:=zat (st:=zct) qbjf qbjg
  have qbvb:=(zau (st:=zct) qbjf qbjg qbjh).binds (ps:=["self", "name", "share"]) (fun _ _ _ _ _ _=>L2.el3 (fun _ _ _=>rfl))
  have qbvc:=zat (st:=zdu) qbju qbjv
  have qbvd:=(zau (st:=zdu) qbju qbjv qbjw).binds (ps:=["self", "name", "depth", "rate"]) (fun _ _ _ _ _ _=>L2.el4 (fun _ _ _ _=>rfl))
  have qbve:=zat (st:=zdd) qbkj qbkk
  have qbvf:=(zau (st:=zdd) qbkj qbkk qbkl).binds (ps:=["self", "name"]) (fun _ _ _ _ _ _=>L2.el2 (fun _ _=>rfl))
  have qbvg:=zat (st:=zde) qbky qbkz
  have qbvh:=(zau (st:=zde) qbky qbkz qbla).binds (ps:=["self", "name"]) (fun _ _ _ _ _ _=>L2.el2 (fun _ _=>rfl))
  have qbvi:=zat (st:=zdn) qbln qblo
  have qbvj:=(zau (st:=zdn) qbln qblo qblp).binds (ps:=["self", "at"]) (fun _ _ _ _ _ _=>L2.el2 (fun _ _=>rfl))
  have qbvk:=zat (st:=zet) qbmc qbmd
  have qbvl:=(zau (st:=zet) qbmc qbmd qbme).binds (ps:=["self", "name"]) (fun _ _ _ _ _ _=>L2.el2 (fun _ _=>rfl))
  have qbvm:=zat (st:=zeg) qbmr qbms
  have qbvn:=(zau (st:=zeg) qbmr qbms qbmt).binds (ps:=["self", "name"]) (fun _ _ _ _ _ _=>L2.el2 (fun _ _=>rfl))
  have qbvo:=zat (st:=zdf) qbng qbnh
  have qbvp:=(zau (st:=zdf) qbng qbnh qbni).binds (ps:=["self", "name"]) (fun _ _ _ _ _ _=>L2.el2 (fun _ _=>rfl))
  have qbvq:=zat (st:=zdv) qbnv qbnw
  have qbvr:=(zau (st:=zdv) qbnv qbnw qbnx).binds (ps:=["self", "name"]) (fun _ _ _ _ _ _=>L2.el2 (fun _ _=>rfl))
  have qbvs:=zat (st:=zdw) qbok qbol
  have qbvt:=(zau (st:=zdw) qbok qbol qbom).binds (ps:=["self", "name"]) (fun _ _ _ _ _ _=>L2.el2 (fun _ _=>rfl))
  have qbvu:=zat (st:=zbn) qboz qbpa
  have qbvv:=(zau (st:=zbn) qboz qbpa qbpb).binds (ps:=["self", "name"]) (fun _ _ _ _ _ _=>L2.el2 (fun _ _=>rfl))
  have qbvw:=zat (st:=zcb) qbpo qbpp
  have qbvx:=(zau (st:=zcb) qbpo qbpp qbpq).binds (ps:=["self", "name"]) (fun _ _ _ _ _ _=>L2.el2 (fun _ _=>rfl))
  have qbvy:=zat (st:=zbs) qbqd qbqe
  have qbvz:=(zau (st:=zbs) qbqd qbqe qbqf).binds (ps:=["self"]) (fun _ _ _ _ _ _=>L2.el1 (fun _=>rfl))
  have qbwa:=zat (st:=zcj) qbqs qbqt
  have qbwb:=(zau (st:=zcj) qbqs qbqt qbqu).binds (ps:=["self", "at"]) (fun _ _ _ _ _ _=>L2.el2 (fun _ _=>rfl))
  have qbwc:=zat (st:=zbt) qbrh qbri
  have qbwd:=(zau (st:=zbt) qbrh qbri qbrj).binds (ps:=["self"]) (fun _ _ _ _ _ _=>L2.el1 (fun _=>rfl))
  have T:Txt K mg qek qel qem qen qeo qep qeq qer qes qki qlq qqp qqr qxc qbec qbfk:=⟨PySem.W.mg_of X G qfc,qbrv,qfk,qfn,PySem.W.mg_of X G qfo,qbrw,qfw,qfz,PySem.W.mg_of X G qga,qbrx,qgi,qgl,PySem.W.mg_of X G qgm,qbry,qgu,qgx,PySem.W.mg_of X G qgy,qbrz,qhg,qhj,PySem.W.mg_of X G qhk,qbsa,qhs,qhv,PySem.W.mg_of X G qhw,qbsb,qie,qih,PySem.W.mg_of X G qii,qbsc,qiq,qit,PySem.W.mg_of X G qiu,qbsd,qjc,qjf,qjg,qjh,qji,zhz qjk qfl qfm qjj,qjl,zhz qjm qgv qgw qjl,qjn,zhz qjp qif qig qjo,zhz qjr qfl qfm qjq,qjs,zhz qjt qgv qgw qjs,zhz qjv qht qhu qju,qjw,qjx,qbrn,qbro,zhz qbrq qbrl qbrm qbrp,qbrr,qbrs,zhz qbru qbrl qbrm qbrt,kg,kt,PySem.W.mg_none_of X G z1,PySem.W.mg_none_of X G z2,PySem.W.mg_none_of X G z3,PySem.W.mg_none_of X G z4,PySem.W.mg_none_of X G z5,PySem.W.mg_none_of X G z6,PySem.W.mg_none_of X G z7,PySem.W.mg_none_of X G z8,PySem.W.mg_none_of X G z9,⟨_,PySem.W.mg_of X G qjy⟩,⟨_,PySem.W.mg_of X G qjz⟩,⟨_,PySem.W.mg_of X G qka⟩,⟨_,PySem.W.mg_of X G qkb⟩,⟨_,PySem.W.mg_of X G qkc⟩,⟨_,PySem.W.mg_of X G qkd,fun H=>.inr ⟨_,_,_,qke,rfl,rfl,(by show 2<=sizeLine; decide),.cons ⟨_,rfl⟩ (.cons ⟨_,rfl⟩ (.nil))⟩⟩,⟨_,PySem.W.mg_of X G qkf⟩,⟨_,PySem.W.mg_of X G qkg⟩,⟨_,PySem.W.mg_of X G qkh⟩,⟨_,_,F1,F1.binds (ps:=["one", "other"]) (fun _ _ _ _ _ _=>L2.el2 (fun _ _=>rfl)),PySem.W.mg_of X G a1⟩,⟨_,_,F2,F2.binds (ps:=["top", "bottom"]) (fun _ _ _ _ _ _=>L2.el2 (fun _ _=>rfl)),PySem.W.mg_of X G a2⟩,⟨_,_,F3,F3.binds (ps:=["one", "other"]) (fun _ _ _ _ _ _=>L2.el2 (fun _ _=>rfl)),PySem.W.mg_of X G a3⟩,⟨_,_,F4,F4.binds (ps:=["share"]) (fun _ _ _ _ _ _=>L2.el1 (fun _=>rfl)),PySem.W.mg_of X G a4⟩,⟨_,_,F5,F5.binds (ps:=["most"]) (fun _ _ _ _ _ _=>L2.el1 (fun _=>rfl)),PySem.W.mg_of X G a5⟩,⟨_,_,F6,F6.binds (ps:=["text"]) (fun _ _ _ _ _ _=>L2.el1 (fun _=>rfl)),PySem.W.mg_of X G a6⟩,⟨_,_,F7,F7.binds (ps:=["kind", "most"]) (fun _ _ _ _ _ _=>L2.el2 (fun _ _=>rfl)),PySem.W.mg_of X G a7⟩,⟨_,_,F8,F8.binds (ps:=["_law_script", "_law_k"]) (fun _ _ _ _ _ _=>L2.el2 (fun _ _=>rfl)),PySem.W.mg_of X G a8⟩,⟨_,_,F9,F9.binds (ps:=["_law_cell", "_law_many"]) (fun _ _ _ _ _ _=>L2.el2 (fun _ _=>rfl)),PySem.W.mg_of X G a9⟩,⟨_,_,F10,F10.binds (ps:=["_law_tree", "_law_name", "_law_share_here"]) (fun _ _ _ _ _ _=>L2.el3 (fun _ _ _=>rfl)),PySem.W.mg_of X G a10⟩,⟨_,_,F11,F11.binds (ps:=["_law_tree", "_law_name", "_law_depth", "_law_rate"]) (fun _ _ _ _ _ _=>L2.el4 (fun _ _ _ _=>rfl)),PySem.W.mg_of X G a11⟩,⟨_,_,F12,F12.binds (ps:=["_law_tree", "_law_name"]) (fun _ _ _ _ _ _=>L2.el2 (fun _ _=>rfl)),PySem.W.mg_of X G a12⟩,⟨_,_,F13,F13.binds (ps:=["_law_tree", "_law_name", "_law_which"]) (fun _ _ _ _ _ _=>L2.el3 (fun _ _ _=>rfl)),PySem.W.mg_of X G a13⟩,⟨_,_,F14,F14.binds (ps:=["_law_most", "_law_kind"]) (fun _ _ _ _ _ _=>L2.el2 (fun _ _=>rfl)),PySem.W.mg_of X G a14⟩,⟨_,_,F15,F15.binds (ps:=["_law_top", "_law_bottom"]) (fun _ _ _ _ _ _=>L2.el2 (fun _ _=>rfl)),PySem.W.mg_of X G a15⟩,⟨_,_,F16,F16.binds (ps:=["_law_world", "_law_name"]) (fun _ _ _ _ _ _=>L2.el2 (fun _ _=>rfl)),PySem.W.mg_of X G a16⟩,⟨_,_,F17,F17.binds (ps:=["_law_tree", "_law_world", "_law_name"]) (fun _ _ _ _ _ _=>L2.el3 (fun _ _ _=>rfl)),PySem.W.mg_of X G a17⟩,⟨_,_,F18,F18.binds (ps:=["_law_tree", "_law_cell"]) (fun _ _ _ _ _ _=>L2.el2 (fun _ _=>rfl)),PySem.W.mg_of X G a18⟩,⟨_,_,F19,F19.binds (ps:=["_law_tree", "_law_world", "_law_name", "_law_xs"]) (fun _ _ _ _ _ _=>L2.el4 (fun _ _ _ _=>rfl)),PySem.W.mg_of X G a19⟩,PySem.W.mg_of X G qkj,⟨qkk,qkl,qkm,qkn⟩,qkq,qkr,qks,qkt,⟨⟨_,_,qbse,⟨qko,qlk,qll,qkp⟩,(fun dvs h=>by simp only [List.mem_cons,List.not_mem_nil,or_false] at h; rcases h with rfl | rfl <;> first | exact ⟨_,.nil,qbsf⟩ | exact ⟨_,(.cons ⟨_,rfl⟩ .nil),qbsg⟩)⟩⟩,PySem.W.mg_of X G qlr,⟨qls,qlt,qlu,qlv⟩,qly,⟨⟨_,_,qbsh,⟨qlw,qmj,qmk,qlx⟩,(fun dvs h=>by simp only [List.mem_cons,List.not_mem_nil,or_false] at h; subst h; exact BindsV.nil qbsi)⟩⟩,⟨⟨_,_,qbsj,⟨qmy,qmz,qnc⟩,(fun dvs h=>by simp only [List.mem_cons,List.not_mem_nil,or_false] at h; subst h; exact BindsV.nil qbsk)⟩⟩,⟨⟨_,_,qbsl,⟨qnn,qno,qnr⟩,(fun dvs h=>by simp only [List.mem_cons,List.not_mem_nil,or_false] at h; subst h; exact BindsV.nil qbsm)⟩⟩,⟨⟨_,_,qbsn,⟨qoc,qod,qog⟩,(fun dvs h=>by simp only [List.mem_cons,List.not_mem_nil,or_false] at h; subst h; exact BindsV.nil qbso)⟩⟩,⟨⟨_,_,qbsp,⟨qor,qos,qov⟩,(fun dvs h=>by simp only [List.mem_cons,List.not_mem_nil,or_false] at h; subst h; exact BindsV.nil qbsq)⟩⟩,⟨⟨_,_,qbsr,⟨qpg,qph,qpk⟩,(fun dvs h=>by simp only [List.mem_cons,List.not_mem_nil,or_false] at h; subst h; exact BindsV.nil qbss)⟩⟩,⟨⟨_,_,qbst,⟨qpv,qpw,qpz⟩,(fun dvs h=>by simp only [List.mem_cons,List.not_mem_nil,or_false] at h; subst h; exact BindsV.nil qbsu)⟩⟩,⟨⟨_,_,qbsv,⟨qqk,qql,qqo⟩,(fun dvs h=>by simp only [List.mem_cons,List.not_mem_nil,or_false] at h; subst h; exact BindsV.nil qbsw)⟩⟩,PySem.W.mg_of X G qqq,PySem.W.mg_of X G qqs,⟨qqt,qqu,qqv,qqw⟩,qqz,qra,qrb,qrc,qrd,qre,⟨⟨_,_,qbsx,⟨qqx,qrp,qrq,qqy⟩,(fun dvs h=>by simp only [List.mem_cons,List.not_mem_nil,or_false] at h; subst h; exact BindsV.nil qbsy)⟩⟩,⟨⟨_,_,qbsz,⟨qse,qsf,qsi⟩,(fun dvs h=>by simp only [List.mem_cons,List.not_mem_nil,or_false] at h; subst h; exact BindsV.nil qbta)⟩⟩,⟨⟨_,_,qbtb,⟨qst,qsu,qsx⟩,(fun dvs h=>by simp only [List.mem_cons,List.not_mem_nil,or_false] at h; subst h; exact BindsV.nil qbtc)⟩⟩,⟨⟨_,_,qbtd,⟨⟨_,qtm,qtn⟩,qto,qtp⟩,BindsV.nil qbte⟩⟩,⟨⟨_,_,qbtf,⟨qua,qub,que⟩,(fun dvs h=>by simp only [List.mem_cons,List.not_mem_nil,or_false] at h; subst h; exact BindsV.nil qbtg)⟩⟩,⟨⟨_,_,qbth,⟨qup,quq,qut⟩,(fun dvs h=>by simp only [List.mem_cons,List.not_mem_nil,or_false] at h; subst h; exact BindsV.nil qbti)⟩⟩,⟨⟨_,_,qbtj,⟨qve,qvf,qvi⟩,(fun dvs h=>by simp only [List.mem_cons,List.not_mem_nil,or_false] at h; subst h; exact BindsV.nil qbtk)⟩⟩,⟨⟨_,_,qbtl,⟨qvt,qvu,qvx⟩,(fun dvs h=>by simp only [List.mem_cons,List.not_mem_nil,or_false] at h; subst h; exact BindsV.nil qbtm)⟩⟩,⟨⟨_,_,qbtn,⟨qwi,qwj,qwm⟩,(fun dvs h=>by simp only [List.mem_cons,List.not_mem_nil,or_false] at h; subst h; exact BindsV.nil qbto)⟩⟩,⟨⟨_,_,qbtp,⟨qwx,qwy,qxb⟩,(fun dvs h=>by simp only [List.mem_cons,List.not_mem_nil,or_false] at h; subst h; exact BindsV.nil qbtq)⟩⟩,PySem.W.mg_of X G qxd,⟨qxe,qxf,qxg,qxh⟩,qxk,qxl,qxm,qxn,qxo,qxp,⟨⟨_,_,qbtr,⟨qxi,qya,qyb,qxj⟩,(fun dvs h=>by simp only [List.mem_cons,List.not_mem_nil,or_false] at h; subst h; exact BindsV.nil qbts)⟩⟩,⟨⟨_,_,qbtt,⟨qyp,qyq,qyt⟩,(fun dvs h=>by simp only [List.mem_cons,List.not_mem_nil,or_false] at h; subst h; exact BindsV.nil qbtu)⟩⟩,⟨⟨_,_,qbtv,⟨qze,qzf,qzi⟩,(fun dvs h=>by simp only [List.mem_cons,List.not_mem_nil,or_false] at h; subst h; exact BindsV.nil qbtw)⟩⟩,⟨⟨_,_,qbtx,⟨qzt,qzu,qzx⟩,(fun dvs h=>by simp only [List.mem_cons,List.not_mem_nil,or_false] at h; subst h; exact BindsV.nil qbty)⟩⟩,⟨⟨_,_,qbtz,⟨⟨_,qbam,qban⟩,qbao,qbap⟩,BindsV.nil qbua⟩⟩,⟨⟨_,_,qbub,⟨qbba,qbbb,qbbe⟩,(fun dvs h=>by simp only [List.mem_cons,List.not_mem_nil,or_false] at h; subst h; exact BindsV.nil qbuc)⟩⟩,⟨⟨_,_,qbud,⟨qbbp,qbbq,qbbt⟩,(fun dvs h=>by simp only [List.mem_cons,List.not_mem_nil,or_false] at h; subst h; exact BindsV.nil qbue)⟩⟩,⟨⟨_,_,qbuf,⟨qbce,qbcf,qbci⟩,(fun dvs h=>by simp only [List.mem_cons,List.not_mem_nil,or_false] at h; subst h; exact BindsV.nil qbug)⟩⟩,⟨⟨_,_,qbuh,⟨qbct,qbcu,qbcx⟩,(fun dvs h=>by simp only [List.mem_cons,List.not_mem_nil,or_false] at h; subst h; exact BindsV.nil qbui)⟩⟩,⟨⟨_,_,qbuj,⟨qbdi,qbdj,qbdm⟩,(fun dvs h=>by simp only [List.mem_cons,List.not_mem_nil,or_false] at h; subst h; exact BindsV.nil qbuk)⟩⟩,⟨⟨_,_,qbul,⟨qbdx,qbdy,qbeb⟩,(fun dvs h=>by simp only [List.mem_cons,List.not_mem_nil,or_false] at h; subst h; exact BindsV.nil qbum)⟩⟩,PySem.W.mg_of X G qbed,⟨qbee,qbef,qbeg,qbeh⟩,qbek,qbel,qbem,qben,qbeo,⟨⟨_,_,qbun,⟨qbei,qbfe,qbff,qbej⟩,(fun dvs h=>by simp only [List.mem_cons,List.not_mem_nil,or_false] at h; rcases h with rfl | rfl <;> first | exact ⟨_,.nil,qbuo⟩ | exact ⟨_,(.cons rfl .nil),qbup⟩)⟩⟩,PySem.W.mg_of X G qbfl,⟨qbfm,qbfn,qbfo,qbfp⟩,qbfs,qbft,qbfu,qbfv,qbfw,qbfx,⟨⟨_,_,qbuq,⟨qbfq,qbgo,qbgp,qbfr⟩,(fun dvs h=>by simp only [List.mem_cons,List.not_mem_nil,or_false] at h; rcases h with rfl | rfl <;> first | exact ⟨_,.nil,qbur⟩ | exact ⟨_,(.cons ⟨_,rfl⟩ .nil),qbus⟩)⟩⟩,⟨⟨_,_,qbut,⟨qbhe,qbhf,qbhi⟩,(fun dvs h=>by simp only [List.mem_cons,List.not_mem_nil,or_false] at h; subst h; exact BindsV.nil qbuu)⟩⟩,⟨⟨_,_,qbuv,⟨qbht,qbhu,qbhx⟩,(fun dvs h=>by simp only [List.mem_cons,List.not_mem_nil,or_false] at h; subst h; exact BindsV.nil qbuw)⟩⟩,⟨⟨_,_,qbux,⟨qbin,qbio,qbir⟩,(fun dvs h=>by simp only [List.mem_cons,List.not_mem_nil,or_false] at h; rcases h with rfl | rfl <;> first | exact ⟨_,.nil,qbuy⟩ | exact ⟨_,(.cons rfl .nil),qbuz⟩)⟩⟩,⟨⟨_,_,qbva,⟨qbjd,qbje,qbjh⟩,(fun dvs h=>by simp only [List.mem_cons,List.not_mem_nil,or_false] at h; subst h; exact BindsV.nil qbvb)⟩⟩,⟨⟨_,_,qbvc,⟨qbjs,qbjt,qbjw⟩,(fun dvs h=>by simp only [List.mem_cons,List.not_mem_nil,or_false] at h; subst h; exact BindsV.nil qbvd)⟩⟩,⟨⟨_,_,qbve,⟨qbkh,qbki,qbkl⟩,(fun dvs h=>by simp only [List.mem_cons,List.not_mem_nil,or_false] at h; subst h; exact BindsV.nil qbvf)⟩⟩,⟨⟨_,_,qbvg,⟨qbkw,qbkx,qbla⟩,(fun dvs h=>by simp only [List.mem_cons,List.not_mem_nil,or_false] at h; subst h; exact BindsV.nil qbvh)⟩⟩,⟨⟨_,_,qbvi,⟨qbll,qblm,qblp⟩,(fun dvs h=>by simp only [List.mem_cons,List.not_mem_nil,or_false] at h; subst h; exact BindsV.nil qbvj)⟩⟩,⟨⟨_,_,qbvk,⟨qbma,qbmb,qbme⟩,(fun dvs h=>by simp only [List.mem_cons,List.not_mem_nil,or_false] at h; subst h; exact BindsV.nil qbvl)⟩⟩,⟨⟨_,_,qbvm,⟨qbmp,qbmq,qbmt⟩,(fun dvs h=>by simp only [List.mem_cons,List.not_mem_nil,or_false] at h; subst h; exact BindsV.nil qbvn)⟩⟩,⟨⟨_,_,qbvo,⟨qbne,qbnf,qbni⟩,(fun dvs h=>by simp only [List.mem_cons,List.not_mem_nil,or_false] at h; subst h; exact BindsV.nil qbvp)⟩⟩,⟨⟨_,_,qbvq,⟨qbnt,qbnu,qbnx⟩,(fun dvs h=>by simp only [List.mem_cons,List.not_mem_nil,or_false] at h; subst h; exact BindsV.nil qbvr)⟩⟩,⟨⟨_,_,qbvs,⟨qboi,qboj,qbom⟩,(fun dvs h=>by simp only [List.mem_cons,List.not_mem_nil,or_false] at h; subst h; exact BindsV.nil qbvt)⟩⟩,⟨⟨_,_,qbvu,⟨qbox,qboy,qbpb⟩,(fun dvs h=>by simp only [List.mem_cons,List.not_mem_nil,or_false] at h; subst h; exact BindsV.nil qbvv)⟩⟩,⟨⟨_,_,qbvw,⟨qbpm,qbpn,qbpq⟩,(fun dvs h=>by simp only [List.mem_cons,List.not_mem_nil,or_false] at h; subst h; exact BindsV.nil qbvx)⟩⟩,⟨⟨_,_,qbvy,⟨qbqb,qbqc,qbqf⟩,(fun dvs h=>by simp only [List.mem_cons,List.not_mem_nil,or_false] at h; subst h; exact BindsV.nil qbvz)⟩⟩,⟨⟨_,_,qbwa,⟨qbqq,qbqr,qbqu⟩,(fun dvs h=>by simp only [List.mem_cons,List.not_mem_nil,or_false] at h; subst h; exact BindsV.nil qbwb)⟩⟩,⟨⟨_,_,qbwc,⟨qbrf,qbrg,qbrj⟩,(fun dvs h=>by simp only [List.mem_cons,List.not_mem_nil,or_false] at h; subst h; exact BindsV.nil qbwd)⟩⟩⟩
  exact ⟨PySem.W.fnOf "law" "law" (zam s_law) (zaj s_law) (zab s_law) .none qdr qds qdt qw qdu qdv,fun s v=>.of_eq rfl,fun base _ _=>zyn (zau (st:=s_law) l20 c20 k20) T⟩
theorem walk {l:PySem.W.OpenLaw} {q:Program} {loose:List Str} {XP:(Str->Option Value)->Heap->Prop} {YP:World->Heap->Prop} {d:DefRec} {K:Params->PySem.W.Frag} (hn:l.most=some 63) (hdf:d.params.defaults = [])
    (hY:∀ (w:World) (h:Heap),YP w h->(K w.params).In h)
    (F:∀ (w:World) (mg:Str->Option Value) (fa:Addr) (h:Heap),(K w.params).In h->h.Ns mainGlobals mg->mg d.name=some (.ref fa) ->
      ∃ fd:FuncData,(∀ (s:Shared) (u:Value),BindsTo s fd ⟨[u],[]⟩ [("_law_script", u)])/\∀ base:Heap,(K w.params).In base->base.Ns mainGlobals mg->FnOk l.prog w (K w.params) mg base CX0 10 fa fd ["_law_script"] (spLaw (K w.params))) :
    PySem.W.WalkO q loose XP YP l.row.toRowW d [] (fun f vs=>PySem.call f vs) :=
  L2.walk_of (n:=63) (k:=10) (x := "_law_script") (CX:=fun _=>CX0) (sp:=fun w=>spLaw (K w.params)) hn (by decide) hdf ⟨rfl,by decide,by decide⟩ hY F (fun _ _ a ns hl _ hS=>⟨a,ns,rfl,hS,hl,fun _=>rfl⟩) fun _ _ _ _ _ z=>z
end K66
theorem PySem.W.Fast.te10832417341534978313 : True := trivial
theorem PySem.W.Fast.tw13416392212395604320 : True := trivial
theorem PySem.W.Fast.tw6645565233964943555 : True := trivial
theorem PySem.W.Fast.tw1335596964976192472 : True := trivial
theorem PySem.W.Fast.tw13274495732577459865 : True := trivial
theorem PySem.W.Fast.tw12330535117377994420 : True := trivial
theorem PySem.W.Fast.tw6604191973329785456 : True := trivial
theorem PySem.W.Fast.tw14839058431778758823 : True := trivial
theorem PySem.W.Fast.tw17977006336766331821 : True := trivial
theorem PySem.W.Fast.tw4473718082446500677 : True := trivial
theorem PySem.W.Fast.tw864502439232556489 : True := trivial
theorem PySem.W.Fast.tw16896586113814356368 : True := trivial
theorem PySem.W.Fast.tw16764558123330594938 : True := trivial
theorem PySem.W.Fast.tw17802708580819884097 : True := trivial
theorem PySem.W.Fast.tw11725693880375481546 : True := trivial
theorem PySem.W.Fast.tw15701437492327538392 : True := trivial
theorem PySem.W.Fast.tw59653039536719710 : True := trivial
theorem PySem.W.Fast.tw15468275128117639261 : True := trivial
theorem PySem.W.Fast.tw5351176288210443432 : True := trivial
theorem PySem.W.Fast.tw11845172663303897627 : True := trivial
theorem PySem.W.Fast.tw4621636023570288145 : True := trivial
theorem PySem.W.Fast.tw3363561457392813461 : True := trivial
theorem PySem.W.Fast.tw4233195416344711452 : True := trivial
theorem PySem.W.Fast.tw7271114923612412094 : True := trivial
theorem PySem.W.Fast.tw1550576754801506020 : True := trivial
theorem PySem.W.Fast.tw15035133636962826457 : True := trivial
theorem PySem.W.Fast.tw3947967891895254324 : True := trivial
theorem PySem.W.Fast.tw10666931354075990559 : True := trivial
theorem PySem.W.Fast.tw3465884784477197997 : True := trivial
theorem PySem.W.Fast.tw3741347058137172260 : True := trivial
theorem PySem.W.Fast.tw7796031541350133102 : True := trivial
theorem PySem.W.Fast.tw6242430033656047412 : True := trivial
theorem PySem.W.Fast.tw2755785441769861709 : True := trivial
theorem PySem.W.Fast.tw12750610685252997406 : True := trivial
theorem PySem.W.Fast.tw11891632934410815548 : True := trivial
theorem PySem.W.Fast.tw14502136337120572845 : True := trivial
theorem PySem.W.Fast.tw797085858150209495 : True := trivial
theorem PySem.W.Fast.tw1281537065656749291 : True := trivial
theorem PySem.W.Fast.tw158676855642861127 : True := trivial
theorem PySem.W.Fast.tw14241467006426180872 : True := trivial
theorem PySem.W.Fast.tw8310789799839063880 : True := trivial
theorem PySem.W.Fast.tw846332054606069744 : True := trivial
theorem PySem.W.Fast.tw4241111068397507394 : True := trivial
theorem PySem.W.Fast.tw10755964630622474864 : True := trivial
theorem PySem.W.Fast.tw2340355325786473885 : True := trivial
theorem PySem.W.Fast.tw4245450614769238741 : True := trivial
theorem PySem.W.Fast.tw1977562073437524047 : True := trivial
open PySem PySem.W PyProof.Rows
set_option maxRecDepth 100000 in
set_option maxHeartbeats 0 in
theorem PySem.Challenge.cw_sharewheel_k66_what_a_tree_refuses_holds : PySem.Challenge.rw_sharewheel_k66_what_a_tree_refuses.Holds := by
  w_on; o_law; k_head; (case hw=>w_witness2)
  k_fill
  refine K66.walk (l:=PySem.Challenge.rw_sharewheel_k66_what_a_tree_refuses) rfl rfl (fun w h Y=>PySem.W.kIn_of Y) ?F
  case F =>
    intro w mg fa h KX G hmg
    refine' K66.all_mk KX G hmg ?qfc ?qfd ?qfe ?qff ?qfg ?qfh ?qfi ?qfj ?qfk ?qfl ?qfm ?qfn ?qfo ?qfp ?qfq ?qfr ?qfs ?qft ?qfu ?qfv ?qfw ?qfx ?qfy ?qfz ?qga ?qgb ?qgc ?qgd ?qge ?qgf ?qgg ?qgh ?qgi ?qgj ?qgk ?qgl ?qgm ?qgn ?qgo ?qgp ?qgq ?qgr ?qgs ?qgt ?qgu ?qgv ?qgw ?qgx ?qgy ?qgz ?qha ?qhb ?qhc ?qhd ?qhe ?qhf ?qhg ?qhh ?qhi ?qhj ?qhk ?qhl ?qhm ?qhn ?qho ?qhp ?qhq ?qhr ?qhs ?qht ?qhu ?qhv ?qhw ?qhx ?qhy ?qhz ?qia ?qib ?qic ?qid ?qie ?qif ?qig ?qih ?qii ?qij ?qik ?qil ?qim ?qin ?qio ?qip ?qiq ?qir ?qis ?qit ?qiu ?qiv ?qiw ?qix ?qiy ?qiz ?qja ?qjb ?qjc ?qjd ?qje ?qjf ?kg ?kt ?qjg ?qjh ?qji ?qjj ?qjk ?qjl ?qjm ?qjn ?qjo ?qjp ?qjq ?qjr ?qjs ?qjt ?qju ?qjv ?qjw ?qjx ?a1 ?l1 ?c1 ?k1 ?a2 ?l2 ?c2 ?k2 ?a3 ?l3 ?c3 ?k3 ?a4 ?l4 ?c4 ?k4 ?a5 ?l5 ?c5 ?k5 ?a6 ?l6 ?c6 ?k6 ?a7 ?l7 ?c7 ?k7 ?a8 ?l8 ?c8 ?k8 ?a9 ?l9 ?c9 ?k9 ?a10 ?l10 ?c10 ?k10 ?a11 ?l11 ?c11 ?k11 ?a12 ?l12 ?c12 ?k12 ?a13 ?l13 ?c13 ?k13 ?a14 ?l14 ?c14 ?k14 ?a15 ?l15 ?c15 ?k15 ?a16 ?l16 ?c16 ?k16 ?a17 ?l17 ?c17 ?k17 ?a18 ?l18 ?c18 ?k18 ?a19 ?l19 ?c19 ?k19 ?a20 ?l20 ?c20 ?k20 ?z1 ?z2 ?z3 ?z4 ?z5 ?z6 ?z7 ?z8 ?z9 ?qjy ?qjz ?qka ?qkb ?qkc ?qkd ?qke ?qkf ?qkg ?qkh ?qkj ?qkk ?qkl ?qkm ?qkn ?qko ?qkp ?qkq ?qkr ?qks ?qkt ?qlk ?qll ?qlm ?qln ?qlo ?qlp ?qlr ?qls ?qlt ?qlu ?qlv ?qlw ?qlx ?qly ?qmj ?qmk ?qml ?qmm ?qmn ?qmy ?qmz ?qna ?qnb ?qnc ?qnn ?qno ?qnp ?qnq ?qnr ?qoc ?qod ?qoe ?qof ?qog ?qor ?qos ?qot ?qou ?qov ?qpg ?qph ?qpi ?qpj ?qpk ?qpv ?qpw ?qpx ?qpy ?qpz ?qqk ?qql ?qqm ?qqn ?qqo ?qqq ?qqs ?qqt ?qqu ?qqv ?qqw ?qqx ?qqy ?qqz ?qra ?qrb ?qrc ?qrd ?qre ?qrp ?qrq ?qrr ?qrs ?qrt ?qse ?qsf ?qsg ?qsh ?qsi ?qst ?qsu ?qsv ?qsw ?qsx ?qti ?qtj ?qtk ?qtl ?qtm ?qtn ?qto ?qtp ?qua ?qub ?quc ?qud ?que ?qup ?quq ?qur ?qus ?qut ?qve ?qvf ?qvg ?qvh ?qvi ?qvt ?qvu ?qvv ?qvw ?qvx ?qwi ?qwj ?qwk ?qwl ?qwm ?qwx ?qwy ?qwz ?qxa ?qxb ?qxd ?qxe ?qxf ?qxg ?qxh ?qxi ?qxj ?qxk ?qxl ?qxm ?qxn ?qxo ?qxp ?qya ?qyb ?qyc ?qyd ?qye ?qyp ?qyq ?qyr ?qys ?qyt ?qze ?qzf ?qzg ?qzh ?qzi ?qzt ?qzu ?qzv ?qzw ?qzx ?qbai ?qbaj ?qbak ?qbal ?qbam ?qban ?qbao ?qbap ?qbba ?qbbb ?qbbc ?qbbd ?qbbe ?qbbp ?qbbq ?qbbr ?qbbs ?qbbt ?qbce ?qbcf ?qbcg ?qbch ?qbci ?qbct ?qbcu ?qbcv ?qbcw ?qbcx ?qbdi ?qbdj ?qbdk ?qbdl ?qbdm ?qbdx ?qbdy ?qbdz ?qbea ?qbeb ?qbed ?qbee ?qbef ?qbeg ?qbeh ?qbei ?qbej ?qbek ?qbel ?qbem ?qben ?qbeo ?qbfe ?qbff ?qbfg ?qbfh ?qbfi ?qbfj ?qbfl ?qbfm ?qbfn ?qbfo ?qbfp ?qbfq ?qbfr ?qbfs ?qbft ?qbfu ?qbfv ?qbfw ?qbfx ?qbgo ?qbgp ?qbgq ?qbgr ?qbgs ?qbgt ?qbhe ?qbhf ?qbhg ?qbhh ?qbhi ?qbht ?qbhu ?qbhv ?qbhw ?qbhx ?qbin ?qbio ?qbip ?qbiq ?qbir ?qbis ?qbjd ?qbje ?qbjf ?qbjg ?qbjh ?qbjs ?qbjt ?qbju ?qbjv ?qbjw ?qbkh ?qbki ?qbkj ?qbkk ?qbkl ?qbkw ?qbkx ?qbky ?qbkz ?qbla ?qbll ?qblm ?qbln ?qblo ?qblp ?qbma ?qbmb ?qbmc ?qbmd ?qbme ?qbmp ?qbmq ?qbmr ?qbms ?qbmt ?qbne ?qbnf ?qbng ?qbnh ?qbni ?qbnt ?qbnu ?qbnv ?qbnw ?qbnx ?qboi ?qboj ?qbok ?qbol ?qbom ?qbox ?qboy ?qboz ?qbpa ?qbpb ?qbpm ?qbpn ?qbpo ?qbpp ?qbpq ?qbqb ?qbqc ?qbqd ?qbqe ?qbqf ?qbqq ?qbqr ?qbqs ?qbqt ?qbqu ?qbrf ?qbrg ?qbrh ?qbri ?qbrj ?qbrl ?qbrm ?qbrn ?qbro ?qbrp ?qbrq ?qbrr ?qbrs ?qbrt ?qbru
    (case qfc=>k_is)
    (case qfd=>k_is)
    (case qfe=>k_is)
    (case qff=>k_is)
    (case qfg=>k_is)
    (case qfh=>k_is)
    (case qfi=>k_is)
    (case qfj=>k_is)
    (case qfk=>k_is)
    (case qfl=>k_is)
    (case qfm=>k_is)
    (case qfn=>k_exc)
    (case qfo=>k_is)
    (case qfp=>k_is)
    (case qfq=>k_is)
    (case qfr=>k_is)
    (case qfs=>k_is)
    (case qft=>k_is)
    (case qfu=>k_is)
    (case qfv=>k_is)
    (case qfw=>k_is)
    (case qfx=>k_is)
    (case qfy=>k_is)
    (case qfz=>k_exc)
    (case qga=>k_is)
    (case qgb=>k_is)
    (case qgc=>k_is)
    (case qgd=>k_is)
    (case qge=>k_is)
    (case qgf=>k_is)
    (case qgg=>k_is)
    (case qgh=>k_is)
    (case qgi=>k_is)
    (case qgj=>k_is)
    (case qgk=>k_is)
    (case qgl=>k_exc)
    (case qgm=>k_is)
    (case qgn=>k_is)
    (case qgo=>k_is)
    (case qgp=>k_is)
    (case qgq=>k_is)
    (case qgr=>k_is)
    (case qgs=>k_is)
    (case qgt=>k_is)
    (case qgu=>k_is)
    (case qgv=>k_is)
    (case qgw=>k_is)
    (case qgx=>k_exc)
    (case qgy=>k_is)
    (case qgz=>k_is)
    (case qha=>k_is)
    (case qhb=>k_is)
    (case qhc=>k_is)
    (case qhd=>k_is)
    (case qhe=>k_is)
    (case qhf=>k_is)
    (case qhg=>k_is)
    (case qhh=>k_is)
    (case qhi=>k_is)
    (case qhj=>k_exc)
    (case qhk=>k_is)
    (case qhl=>k_is)
    (case qhm=>k_is)
    (case qhn=>k_is)
    (case qho=>k_is)
    (case qhp=>k_is)
    (case qhq=>k_is)
    (case qhr=>k_is)
    (case qhs=>k_is)
    (case qht=>k_is)
    (case qhu=>k_is)
    (case qhv=>k_exc)
    (case qhw=>k_is)
    (case qhx=>k_is)
    (case qhy=>k_is)
    (case qhz=>k_is)
    (case qia=>k_is)
    (case qib=>k_is)
    (case qic=>k_is)
    (case qid=>k_is)
    (case qie=>k_is)
    (case qif=>k_is)
    (case qig=>k_is)
    (case qih=>k_exc)
    (case qii=>k_is)
    (case qij=>k_is)
    (case qik=>k_is)
    (case qil=>k_is)
    (case qim=>k_is)
    (case qin=>k_is)
    (case qio=>k_is)
    (case qip=>k_is)
    (case qiq=>k_is)
    (case qir=>k_is)
    (case qis=>k_is)
    (case qit=>k_exc)
    (case qiu=>k_is)
    (case qiv=>k_is)
    (case qiw=>k_is)
    (case qix=>k_is)
    (case qiy=>k_is)
    (case qiz=>k_is)
    (case qja=>k_is)
    (case qjb=>k_is)
    (case qjc=>k_is)
    (case qjd=>k_is)
    (case qje=>k_is)
    (case qjf=>k_exc)
    (case kg=>k_is)
    (case kt=>k_is)
    (case qjg=>k_is)
    (case qjh=>k_is)
    (case qji=>k_is)
    (case qjj=>k_is)
    (case qjk=>rfl)
    (case qjl=>k_is)
    (case qjm=>rfl)
    (case qjn=>k_is)
    (case qjo=>k_is)
    (case qjp=>rfl)
    (case qjq=>k_is)
    (case qjr=>rfl)
    (case qjs=>k_is)
    (case qjt=>rfl)
    (case qju=>k_is)
    (case qjv=>rfl)
    (case qjw=>k_is)
    (case qjx=>k_is)
    (case a1=>k_is)
    (case l1=>k_is)
    (case c1=>k_is)
    (case k1=>k_is)
    (case a2=>k_is)
    (case l2=>k_is)
    (case c2=>k_is)
    (case k2=>k_is)
    (case a3=>k_is)
    (case l3=>k_is)
    (case c3=>k_is)
    (case k3=>k_is)
    (case a4=>k_is)
    (case l4=>k_is)
    (case c4=>k_is)
    (case k4=>k_is)
    (case a5=>k_is)
    (case l5=>k_is)
    (case c5=>k_is)
    (case k5=>k_is)
    (case a6=>k_is)
    (case l6=>k_is)
    (case c6=>k_is)
    (case k6=>k_is)
    (case a7=>k_is)
    (case l7=>k_is)
    (case c7=>k_is)
    (case k7=>k_is)
    (case a8=>k_is)
    (case l8=>k_is)
    (case c8=>k_is)
    (case k8=>k_is)
    (case a9=>k_is)
    (case l9=>k_is)
    (case c9=>k_is)
    (case k9=>k_is)
    (case a10=>k_is)
    (case l10=>k_is)
    (case c10=>k_is)
    (case k10=>k_is)
    (case a11=>k_is)
    (case l11=>k_is)
    (case c11=>k_is)
    (case k11=>k_is)
    (case a12=>k_is)
    (case l12=>k_is)
    (case c12=>k_is)
    (case k12=>k_is)
    (case a13=>k_is)
    (case l13=>k_is)
    (case c13=>k_is)
    (case k13=>k_is)
    (case a14=>k_is)
    (case l14=>k_is)
    (case c14=>k_is)
    (case k14=>k_is)
    (case a15=>k_is)
    (case l15=>k_is)
    (case c15=>k_is)
    (case k15=>k_is)
    (case a16=>k_is)
    (case l16=>k_is)
    (case c16=>k_is)
    (case k16=>k_is)
    (case a17=>k_is)
    (case l17=>k_is)
    (case c17=>k_is)
    (case k17=>k_is)
    (case a18=>k_is)
    (case l18=>k_is)
    (case c18=>k_is)
    (case k18=>k_is)
    (case a19=>k_is)
    (case l19=>k_is)
    (case c19=>k_is)
    (case k19=>k_is)
    (case a20=>k_is)
    (case l20=>k_is)
    (case c20=>k_is)
    (case k20=>k_is)
    (case z1=>k_is)
    (case z2=>k_is)
    (case z3=>k_is)
    (case z4=>k_is)
    (case z5=>k_is)
    (case z6=>k_is)
    (case z7=>k_is)
    (case z8=>k_is)
    (case z9=>k_is)
    (case qjy=>k_is)
    (case qjz=>k_is)
    (case qka=>k_is)
    (case qkb=>k_is)
    (case qkc=>k_is)
    (case qkd=>k_is)
    (case qke=>k_is)
    (case qkf=>k_is)
    (case qkg=>k_is)
    (case qkh=>k_is)
    (case qkj=>k_is)
    (case qkk=>k_is)
    (case qkl=>k_is)
    (case qkm=>k_is)
    (case qkn=>k_is)
    (case qko=>k_is)
    (case qkp=>k_is)
    (case qkq=>k_is)
    (case qkr=>k_is)
    (case qks=>k_is)
    (case qkt=>k_is)
    (case qlk=>k_is)
    (case qll=>k_is)
    (case qlm=>k_is)
    (case qln=>k_is)
    (case qlo=>k_is)
    (case qlp=>k_is)
    (case qlr=>k_is)
    (case qls=>k_is)
    (case qlt=>k_is)
    (case qlu=>k_is)
    (case qlv=>k_is)
    (case qlw=>k_is)
    (case qlx=>k_is)
    (case qly=>k_is)
    (case qmj=>k_is)
    (case qmk=>k_is)
    (case qml=>k_is)
    (case qmm=>k_is)
    (case qmn=>k_is)
    (case qmy=>k_is)
    (case qmz=>k_is)
    (case qna=>k_is)
    (case qnb=>k_is)
    (case qnc=>k_is)
    (case qnn=>k_is)
    (case qno=>k_is)
    (case qnp=>k_is)
    (case qnq=>k_is)
    (case qnr=>k_is)
    (case qoc=>k_is)
    (case qod=>k_is)
    (case qoe=>k_is)
    (case qof=>k_is)
    (case qog=>k_is)
    (case qor=>k_is)
    (case qos=>k_is)
    (case qot=>k_is)
    (case qou=>k_is)
    (case qov=>k_is)
    (case qpg=>k_is)
    (case qph=>k_is)
    (case qpi=>k_is)
    (case qpj=>k_is)
    (case qpk=>k_is)
    (case qpv=>k_is)
    (case qpw=>k_is)
    (case qpx=>k_is)
    (case qpy=>k_is)
    (case qpz=>k_is)
    (case qqk=>k_is)
    (case qql=>k_is)
    (case qqm=>k_is)
    (case qqn=>k_is)
    (case qqo=>k_is)
    (case qqq=>k_is)
    (case qqs=>k_is)
    (case qqt=>k_is)
    (case qqu=>k_is)
    (case qqv=>k_is)
    (case qqw=>k_is)
    (case qqx=>k_is)
    (case qqy=>k_is)
    (case qqz=>k_is)
    (case qra=>k_is)
    (case qrb=>k_is)
    (case qrc=>k_is)
    (case qrd=>k_is)
    (case qre=>k_is)
    (case qrp=>k_is)
    (case qrq=>k_is)
    (case qrr=>k_is)
    (case qrs=>k_is)
    (case qrt=>k_is)
    (case qse=>k_is)
    (case qsf=>k_is)
    (case qsg=>k_is)
    (case qsh=>k_is)
    (case qsi=>k_is)
    (case qst=>k_is)
    (case qsu=>k_is)
    (case qsv=>k_is)
    (case qsw=>k_is)
    (case qsx=>k_is)
    (case qti=>k_is)
    (case qtj=>k_is)
    (case qtk=>k_is)
    (case qtl=>k_is)
    (case qtm=>k_is)
    (case qtn=>k_is)
    (case qto=>k_is)
    (case qtp=>k_is)
    (case qua=>k_is)
    (case qub=>k_is)
    (case quc=>k_is)
    (case qud=>k_is)
    (case que=>k_is)
    (case qup=>k_is)
    (case quq=>k_is)
    (case qur=>k_is)
    (case qus=>k_is)
    (case qut=>k_is)
    (case qve=>k_is)
    (case qvf=>k_is)
    (case qvg=>k_is)
    (case qvh=>k_is)
    (case qvi=>k_is)
    (case qvt=>k_is)
    (case qvu=>k_is)
    (case qvv=>k_is)
    (case qvw=>k_is)
    (case qvx=>k_is)
    (case qwi=>k_is)
    (case qwj=>k_is)
    (case qwk=>k_is)
    (case qwl=>k_is)
    (case qwm=>k_is)
    (case qwx=>k_is)
    (case qwy=>k_is)
    (case qwz=>k_is)
    (case qxa=>k_is)
    (case qxb=>k_is)
    (case qxd=>k_is)
    (case qxe=>k_is)
    (case qxf=>k_is)
    (case qxg=>k_is)
    (case qxh=>k_is)
    (case qxi=>k_is)
    (case qxj=>k_is)
    (case qxk=>k_is)
    (case qxl=>k_is)
    (case qxm=>k_is)
    (case qxn=>k_is)
    (case qxo=>k_is)
    (case qxp=>k_is)
    (case qya=>k_is)
    (case qyb=>k_is)
    (case qyc=>k_is)
    (case qyd=>k_is)
    (case qye=>k_is)
    (case qyp=>k_is)
    (case qyq=>k_is)
    (case qyr=>k_is)
    (case qys=>k_is)
    (case qyt=>k_is)
    (case qze=>k_is)
    (case qzf=>k_is)
    (case qzg=>k_is)
    (case qzh=>k_is)
    (case qzi=>k_is)
    (case qzt=>k_is)
    (case qzu=>k_is)
    (case qzv=>k_is)
    (case qzw=>k_is)
    (case qzx=>k_is)
    (case qbai=>k_is)
    (case qbaj=>k_is)
    (case qbak=>k_is)
    (case qbal=>k_is)
    (case qbam=>k_is)
    (case qban=>k_is)
    (case qbao=>k_is)
    (case qbap=>k_is)
    (case qbba=>k_is)
    (case qbbb=>k_is)
    (case qbbc=>k_is)
    (case qbbd=>k_is)
    (case qbbe=>k_is)
    (case qbbp=>k_is)
    (case qbbq=>k_is)
    (case qbbr=>k_is)
    (case qbbs=>k_is)
    (case qbbt=>k_is)
    (case qbce=>k_is)
    (case qbcf=>k_is)
    (case qbcg=>k_is)
    (case qbch=>k_is)
    (case qbci=>k_is)
    (case qbct=>k_is)
    (case qbcu=>k_is)
    (case qbcv=>k_is)
    (case qbcw=>k_is)
    (case qbcx=>k_is)
    (case qbdi=>k_is)
    (case qbdj=>k_is)
    (case qbdk=>k_is)
    (case qbdl=>k_is)
    (case qbdm=>k_is)
    (case qbdx=>k_is)
    (case qbdy=>k_is)
    (case qbdz=>k_is)
    (case qbea=>k_is)
    (case qbeb=>k_is)
    (case qbed=>k_is)
    (case qbee=>k_is)
    (case qbef=>k_is)
    (case qbeg=>k_is)
    (case qbeh=>k_is)
    (case qbei=>k_is)
    (case qbej=>k_is)
    (case qbek=>k_is)
    (case qbel=>k_is)
    (case qbem=>k_is)
    (case qben=>k_is)
    (case qbeo=>k_is)
    (case qbfe=>k_is)
    (case qbff=>k_is)
    (case qbfg=>k_is)
    (case qbfh=>k_is)
    (case qbfi=>k_is)
    (case qbfj=>k_is)
    (case qbfl=>k_is)
    (case qbfm=>k_is)
    (case qbfn=>k_is)
    (case qbfo=>k_is)
    (case qbfp=>k_is)
    (case qbfq=>k_is)
    (case qbfr=>k_is)
    (case qbfs=>k_is)
    (case qbft=>k_is)
    (case qbfu=>k_is)
    (case qbfv=>k_is)
    (case qbfw=>k_is)
    (case qbfx=>k_is)
    (case qbgo=>k_is)
    (case qbgp=>k_is)
    (case qbgq=>k_is)
    (case qbgr=>k_is)
    (case qbgs=>k_is)
    (case qbgt=>k_is)
    (case qbhe=>k_is)
    (case qbhf=>k_is)
    (case qbhg=>k_is)
    (case qbhh=>k_is)
    (case qbhi=>k_is)
    (case qbht=>k_is)
    (case qbhu=>k_is)
    (case qbhv=>k_is)
    (case qbhw=>k_is)
    (case qbhx=>k_is)
    (case qbin=>k_is)
    (case qbio=>k_is)
    (case qbip=>k_is)
    (case qbiq=>k_is)
    (case qbir=>k_is)
    (case qbis=>k_is)
    (case qbjd=>k_is)
    (case qbje=>k_is)
    (case qbjf=>k_is)
    (case qbjg=>k_is)
    (case qbjh=>k_is)
    (case qbjs=>k_is)
    (case qbjt=>k_is)
    (case qbju=>k_is)
    (case qbjv=>k_is)
    (case qbjw=>k_is)
    (case qbkh=>k_is)
    (case qbki=>k_is)
    (case qbkj=>k_is)
    (case qbkk=>k_is)
    (case qbkl=>k_is)
    (case qbkw=>k_is)
    (case qbkx=>k_is)
    (case qbky=>k_is)
    (case qbkz=>k_is)
    (case qbla=>k_is)
    (case qbll=>k_is)
    (case qblm=>k_is)
    (case qbln=>k_is)
    (case qblo=>k_is)
    (case qblp=>k_is)
    (case qbma=>k_is)
    (case qbmb=>k_is)
    (case qbmc=>k_is)
    (case qbmd=>k_is)
    (case qbme=>k_is)
    (case qbmp=>k_is)
    (case qbmq=>k_is)
    (case qbmr=>k_is)
    (case qbms=>k_is)
    (case qbmt=>k_is)
    (case qbne=>k_is)
    (case qbnf=>k_is)
    (case qbng=>k_is)
    (case qbnh=>k_is)
    (case qbni=>k_is)
    (case qbnt=>k_is)
    (case qbnu=>k_is)
    (case qbnv=>k_is)
    (case qbnw=>k_is)
    (case qbnx=>k_is)
    (case qboi=>k_is)
    (case qboj=>k_is)
    (case qbok=>k_is)
    (case qbol=>k_is)
    (case qbom=>k_is)
    (case qbox=>k_is)
    (case qboy=>k_is)
    (case qboz=>k_is)
    (case qbpa=>k_is)
    (case qbpb=>k_is)
    (case qbpm=>k_is)
    (case qbpn=>k_is)
    (case qbpo=>k_is)
    (case qbpp=>k_is)
    (case qbpq=>k_is)
    (case qbqb=>k_is)
    (case qbqc=>k_is)
    (case qbqd=>k_is)
    (case qbqe=>k_is)
    (case qbqf=>k_is)
    (case qbqq=>k_is)
    (case qbqr=>k_is)
    (case qbqs=>k_is)
    (case qbqt=>k_is)
    (case qbqu=>k_is)
    (case qbrf=>k_is)
    (case qbrg=>k_is)
    (case qbrh=>k_is)
    (case qbri=>k_is)
    (case qbrj=>k_is)
    (case qbrl=>k_is)
    (case qbrm=>k_is)
    (case qbrn=>k_is)
    (case qbro=>k_is)
    (case qbrp=>k_is)
    (case qbrq=>rfl)
    (case qbrr=>k_is)
    (case qbrs=>k_is)
    (case qbrt=>k_is)
    (case qbru=>rfl)
