import PyProof.Rows.All
import Wide.All
import OpenK.AllK
import Wide.FinOn
import Lean
import PyProof.EqAt
import PyProof.EqKinds
import PyProof.TupleCall
import PySem.Challenge.RW_sharewheel_k74_whole_the_bound_is_come_t
set_option Elab.async false
set_option linter.all false
set_option maxRecDepth 100000
namespace L2
open PySem PySem.Spec PyProof.Rows
abbrev Key:=Sum Int Str
def keyIs:Key->Value->Bool
 | .inl k,v=>Value.isInt k v
 | .inr x,v=>Value.isStrOf x v
def keyH (w:World):Key->Int
 | .inl k=>hashInt k
 | .inr x=>hashStr w x
theorem zcv:∀ {k:Key} {v:Value},keyIs k v=true->(∃ i t,k=Sum.inl i/\v=Value.int i t)\/(∃ x t,k=Sum.inr x/\v=Value.str x t)
 | .inl i,v,h=>by
  obtain ⟨t,e⟩:=Value.isInt_shape (k:=i) (v:=v) h
  exact .inl ⟨i,t,rfl,e⟩
 | .inr x,v,h=>by
  obtain ⟨t,e⟩:=Value.isStrOf_shape (x:=x) (v:=v) h
  exact .inr ⟨x,t,rfl,e⟩
theorem zqv (i:Int) (t:Tok):keyIs (.inl i) (.int i t)=true:=by simp [keyIs,Value.isInt]
theorem zqw (x:Str) (t:Tok):keyIs (.inr x) (.str x t)=true:=by simp [keyIs,Value.isStrOf]
theorem zxx (a b:Int):decide ((Sum.inl a:Key)=Sum.inl b)=(a == b):=by
 by_cases e:a=b
 ·subst e; simp
 ·have h:¬ (Sum.inl a:Key)=Sum.inl b:=fun q=>e (Sum.inl.inj q)
  rw [decide_eq_false h]
  exact (beq_eq_false_iff_ne.mpr e).symm
theorem zxy (a b:Str):decide ((Sum.inr a:Key)=Sum.inr b)=decide (a=b):=by
 by_cases e:a=b
 ·subst e; simp
 ·have h:¬ (Sum.inr a:Key)=Sum.inr b:=fun q=>e (Sum.inr.inj q)
  rw [decide_eq_false h,decide_eq_false e]
theorem zxz (a:Int) (b:Str):decide ((Sum.inl a:Key)=Sum.inr b)=false:=decide_eq_false (fun q=>nomatch q)
theorem zya (a:Str) (b:Int):decide ((Sum.inr a:Key)=Sum.inl b)=false:=decide_eq_false (fun q=>nomatch q)
def zca (prog:Program) (w:World):PySem.KeyKind prog w Key where
 is:=keyIs
 hash:=keyH w
 inj:=fun v a b ha hb=>by
  rcases zcv ha with ⟨i,t,rfl,rfl⟩ | ⟨x,t,rfl,rfl⟩
  ·rcases zcv hb with ⟨j,u,rfl,e⟩ | ⟨y,u,rfl,e⟩
   ·injection e with e1 _; rw [e1]
   ·exact nomatch e
  ·rcases zcv hb with ⟨j,u,rfl,e⟩ | ⟨y,u,rfl,e⟩
   ·exact nomatch e
   ·injection e with e1 _; rw [e1]
 byValue:=fun k v h=>by
  rcases zcv h with ⟨i,t,rfl,rfl⟩ | ⟨x,t,rfl,rfl⟩ <;> rfl
 pyHash:=fun hv h=>by
  rcases zcv hv with ⟨i,t,rfl,rfl⟩ | ⟨x,t,rfl,rfl⟩
  ·exact wpAny_pyHash_int h
  ·exact wpAny_pyHash_str h
 eqBool:=fun hu hv h=>by
  rcases zcv hu with ⟨i,t,rfl,rfl⟩ | ⟨x,t,rfl,rfl⟩
  ·rcases zcv hv with ⟨j,u,rfl,rfl⟩ | ⟨y,u,rfl,rfl⟩
   ·rw [zxx] at h; exact wpAny_eqBool_int h
   ·rw [zxz] at h; exact SeqAt.EqAt.int_str i t y u _ _ _ _ h
  ·rcases zcv hv with ⟨j,u,rfl,rfl⟩ | ⟨y,u,rfl,rfl⟩
   ·rw [zya] at h; exact SeqAt.EqAt.str_int x t j u _ _ _ _ h
   ·rw [zxy] at h; exact wpAny_eqBool_str h
 «strs»:=fun k x t v h=>by
  rcases zcv h with ⟨i,u,rfl,e⟩ | ⟨y,u,rfl,e⟩
  ·exact nomatch e
  ·injection e with e1 _
   subst e1
   cases v <;> rfl
theorem znz (prog:Program) (w:World) (i:Int) (t:Tok):(zca prog w).is (.inl i) (.int i t)=true:=zqv i t
theorem zoa (prog:Program) (w:World) (x:Str) (t:Tok):(zca prog w).is (.inr x) (.str x t)=true:=zqw x t
inductive V where
 | non | bl (b:Bool) | int (i:Int) | str (x:Str) | byt (b:Array UInt8) | flt (b:UInt64) | ref (a:Addr) | ty (n:String)
 deriving DecidableEq
def RelV:V->Value->Prop
 | .non,u=>u=Value.none
 | .bl b,u=>u=Value.bool b
 | .int i,u=>∃ t,u=Value.int i t
 | .str x,u=>∃ t,u=Value.str x t
 | .byt b,u=>∃ t,u=Value.bytes b t
 | .flt b,u=>∃ t,u=Value.float b t
 | .ref a,u=>u=Value.ref a
 | .ty n,u=>u=Value.type n
abbrev Vals:List V->List Value->Prop:=Paired RelV
theorem Vals.length {xs:List V} {us:List Value} (r:Vals xs us):xs.length=us.length:=Paired.length r
theorem Vals.get:∀ {xs:List V} {us:List Value} {i:Nat} {x:V},Vals xs us->xs[i]? = some x->∃ u,us[i]? = some u/\RelV x u
 | _,_,_,_,.nil,e=>by simp at e
 | _,_,0,_,.cons r _,e=>by simp at e; subst e; exact ⟨_,rfl,r⟩
 | _,_,i+1,x,.cons _ t,e=>by
  obtain ⟨u,h1,h2⟩:=Vals.get (i:=i) (x:=x) t (by simpa using e)
  exact ⟨u,by simpa using h1,h2⟩
theorem Vals.append:∀ {xs ys:List V} {us ws:List Value},Vals xs us->Vals ys ws->Vals (xs++ys) (us++ws)
 | _,_,_,_,.nil,s=>s
 | _,_,_,_,.cons r t,s=>.cons r (Vals.append t s)
theorem Vals.take:∀ {xs:List V} {us:List Value} (n:Nat),Vals xs us->Vals (xs.take n) (us.take n)
 | _,_,0,_=>.nil
 | _,_,_ + 1,.nil=>.nil
 | _,_,n+1,.cons r t=>.cons r (Vals.take n t)
theorem Vals.drop:∀ {xs:List V} {us:List Value} (n:Nat),Vals xs us->Vals (xs.drop n) (us.drop n)
 | _,_,0,r=>r
 | _,_,_ + 1,.nil=>.nil
 | _,_,n+1,.cons _ t=>Vals.drop n t
def RelO:Option V->Option Value->Prop
 | some v,some u=>RelV v u
 | none,none=>True
 | _,_=>False
def KV {κ:Type}:List (κ×V)->List (κ×Value)->Prop:=Paired fun (p:κ×V) (q:κ×Value)=>p.1=q.1/\RelV p.2 q.2
def kV:Key->V
 | .inl i=>.int i
 | .inr x=>.str x
inductive HO where
 | lst (xs:List V)
 | tup (xs:List V)
 | dK (kvs:List (Key×V)) | dT (kvs:List (List Key×V))
 | set (S:Int->Bool) (n:Nat)
 | ins (C dx:Addr) (fs:List (Str×V))
 | own (x:Addr)
 | xd (fs:List (Str×V))
 | met (f x:Addr)
 | rng (lo hi:Int)
 | frz (o:Obj) (u:HO)
 | tbl (ps:Array Value)
 | ext (φ:Heap->Prop)
abbrev Hp:=Addr->Option HO
def upd (H:Hp) (a:Addr) (o:HO):Hp:=fun b=>if b=a then some o else H b
theorem zac {H:Hp} {a:Addr} {o:HO}:upd H a o a=some o:=by unfold upd; rw [if_pos rfl]
theorem zai {H:Hp} {a b:Addr} {o:HO} (h:b≠a):upd H a o b=H b:=by unfold upd; rw [if_neg h]
theorem zex {H:Hp} {a:Addr} {o u:HO}:upd (upd H a o) a u=upd H a u:=by
 funext b; unfold upd; split <;> rfl
theorem ne_of {H:Hp} {a b:Addr} {o u:HO} (h:H a=some o) (h':H b=some u) (d:o≠u):a≠b:=by
 intro e; subst e; rw [h] at h'; exact d (Option.some.inj h')
theorem zan {H:Hp} {a b:Addr} {o:HO} (h:H a=some o) (h':H b=none):a≠b:=by
 intro e; subst e; rw [h] at h'; cases h'
section
variable (P:Program) (w:World)
def ObjOk (H:Hp) (h:Heap) (a:Addr):HO->Prop
  | .lst xs=>xs.length<=sizeLine/\∃ (its:List Value) (n:Nat),Vals xs its/\h.get? a=some { cls:=.type "list", data:=.seq its.toArray n }
  | .tup xs=>xs.length<=sizeLine/\∃ its:List Value,Vals xs its/\IsTup h a its.toArray
  | .dK kvs=>kvs.length<=sizeLine/\(a == sysModules)=false/\∃ vs,KV kvs vs/\h.DictOf (zca P w) a vs
  | .dT kvs=>kvs.length<=sizeLine/\(a == sysModules)=false/\∃ xs:List (List Key×Addr×Value),
      Paired (fun (p:List Key×V) (q:List Key×Addr×Value)=>p.1=q.1/\H q.2.1=some (.tup (p.1.map kV))/\RelV p.2 q.2.2) kvs xs /\
      ∃ o es ep,h.get? a=some o/\o.ExactDict/\o.data = .dict es ep/\es.toList=xs.map (entryOfKey (tupleKind (zca P w)))/\(xs.map (·.1)).Nodup
  | .set S n=>h.SetOf (intKind P w) a S n
  | .ins C dx fs=>H dx=some (.own a)/\fs.length<=1000/\dx≠a/\h.get? a=some (PySem.W.instObj C dx) /\
      ∃ mA,h.Ns1 dx mA/\(∀ f,RelO (fs.lookup f) (mA f))/\PySem.Within mA (fs.map (·.1))
  | .own _=>∃ o,h.get? a=some o
  | .xd fs=>∃ mA,h.Ns1 a mA/\∀ f,RelO (fs.lookup f) (mA f)
  | .rng lo hi=>∃ t u v,h.get? a=some { cls:=.type "range", data:=.fields #[.int lo t,.int hi u,.int 1 v] }
  | .frz o u=>h.get? a=some o/\ObjOk H h a u
  | .tbl ps=>h.get? a=some { cls:=.none,data:=.fields ps }
  | .met f x=>h.get? a=some (PySem.W.methodObj (.ref f) (.ref x))
  | .ext φ=>φ h/\(∃ o,h.get? a=some o)/\∀ h1 h2:Heap,φ h1->(∀ o,h1.get? a=some o->h2.get? a=some o)->φ h2
def HOk (H:Hp) (h:Heap):Prop:=∀ a o,H a=some o->ObjOk P w H h a o
end
section
variable {P:Program} {w:World} {H H':Hp} {h h':Heap} {a:Addr} {o:HO}
theorem ObjOk.lt (x:ObjOk P w H h a o):a<h.objs.size:=by
 cases o with
 | lst xs=>obtain ⟨_,_,_,_,e⟩:=x; exact Heap.lt_size e
 | tup xs=>obtain ⟨_,_,_,p⟩:=x; exact p.lt
 | dK kvs=>obtain ⟨_,_,_,_,o,_,_,e,_⟩:=x; exact Heap.lt_size e
 | dT kvs=>obtain ⟨_,_,_,_,o,_,_,e,_⟩:=x; exact Heap.lt_size e
 | set S n=>obtain ⟨o,_,_,_,e,_⟩:=x; exact Heap.lt_size e
 | ins C dx fs=>obtain ⟨_,_,_,e,_⟩:=x; exact Heap.lt_size e
 | own y=>obtain ⟨_,e⟩:=x; exact Heap.lt_size e
 | xd fs=>obtain ⟨_,⟨_,_,_,e,_⟩,_⟩:=x; exact Heap.lt_size e
 | rng lo hi=>obtain ⟨_,_,_,e⟩:=x; exact Heap.lt_size e
 | frz ob u=>obtain ⟨e,_⟩:=x; exact Heap.lt_size e
 | tbl ps=>exact Heap.lt_size (show h.get? a=some _ from x)
 | met f y=>exact Heap.lt_size (show h.get? a=some _ from x)
 | ext φ=>obtain ⟨_,⟨_,e⟩,_⟩:=x; exact Heap.lt_size e
theorem Paired.mapP {α β:Type} {F G:α->β->Prop}:∀ {l₁:List α} {l₂:List β},Paired F l₁ l₂->(∀ a b,F a b->G a b)->Paired G l₁ l₂
 | _,_,.nil,_=>.nil
 | _,_,.cons r t,f=>.cons (f _ _ r) (Paired.mapP t f)
theorem ObjOk.stay (x:ObjOk P w H h a o) (k:∀ b u,(b=a\/H b=some (.own a))->h.get? b=some u->h'.get? b=some u)
    (ho:∀ b,H b=some (.own a)->H' b=some (.own a)) (ht:∀ b xs,H b=some (.tup xs)->H' b=some (.tup xs)):ObjOk P w H' h' a o:=by
  induction o with
  | lst xs=>obtain ⟨z,its,n,r,e⟩:=x; exact ⟨z,its,n,r,k _ _ (.inl rfl) e⟩
  | tup xs=>obtain ⟨z,its,r,ob,e,c⟩:=x; exact ⟨z,its,r,ob,k _ _ (.inl rfl) e,c⟩
  | dK kvs=>obtain ⟨z,y,vs,r,ob,es,ep,e,c⟩:=x; exact ⟨z,y,vs,r,ob,es,ep,k _ _ (.inl rfl) e,c⟩
  | dT kvs =>
    obtain ⟨z,y,xs,r,ob,es,ep,e,c⟩:=x
    exact ⟨z,y,xs,Paired.mapP r fun p q z=>⟨z.1,ht _ _ z.2.1,z.2.2⟩,ob,es,ep,k _ _ (.inl rfl) e,c⟩
  | set S n=>obtain ⟨ob,es,ep,t,e,c⟩:=x; exact ⟨ob,es,ep,t,k _ _ (.inl rfl) e,c⟩
  | ins C dx fs =>
    obtain ⟨d,z,ne,e,mA,⟨od,es,ep,e2,c⟩,r⟩:=x
    exact ⟨ho _ d,z,ne,k _ _ (.inl rfl) e,mA,⟨od,es,ep,k _ _ (.inr d) e2,c⟩,r⟩
  | own y=>obtain ⟨ob,e⟩:=x; exact ⟨ob,k _ _ (.inl rfl) e⟩
  | xd fs=>obtain ⟨mA,⟨od,es,ep,e,c⟩,r⟩:=x; exact ⟨mA,⟨od,es,ep,k _ _ (.inl rfl) e,c⟩,r⟩
  | rng lo hi=>obtain ⟨t,u,v,e⟩:=x; exact ⟨t,u,v,k _ _ (.inl rfl) e⟩
  | frz ob u ih=>obtain ⟨e,q⟩:=x; exact ⟨k _ _ (.inl rfl) e,ih q⟩
  | tbl ps =>
    have e:h.get? a=some { cls:=.none,data:=.fields ps }:=x
    show h'.get? a=some { cls:=.none,data:=.fields ps }
    exact k a _ (.inl rfl) e
  | met f y =>
    have e:h.get? a=some (PySem.W.methodObj (.ref f) (.ref y)):=x
    show h'.get? a=some (PySem.W.methodObj (.ref f) (.ref y))
    exact k a _ (.inl rfl) e
  | ext φ=>obtain ⟨p,⟨o,e⟩,st⟩:=x; exact ⟨st _ _ p fun o q=>k _ _ (.inl rfl) q,⟨o,k _ _ (.inl rfl) e⟩,st⟩
theorem HOk.lt (x:HOk P w H h) (e:H a=some o):a<h.objs.size:=(x a o e).lt
theorem HOk.fresh (x:HOk P w H h) (e:h.objs.size<=a):H a=none:=by
 cases q:H a with
 | none=>rfl
 | some u=>exact absurd (Nat.lt_of_lt_of_le (x.lt q) e) (Nat.lt_irrefl _)
theorem HOk.kept (x:HOk P w H h) (k:∀ b u,h.get? b=some u->h'.get? b=some u):HOk P w H h':=fun a o e =>
 (x a o e).stay (fun b u _ q=>k b u q) (fun _ q=>q) fun _ _ q=>q
theorem HOk.laid (x:HOk P w H h) (k:∀ b u,h.get? b=some u->h'.get? b=some u) (hp:h.objs.size<=a) (new:ObjOk P w (upd H a o) h' a o):HOk P w (upd H a o) h':=fun b u e=>by
 have hn:=x.fresh hp
 by_cases hb:b=a
 ·subst hb; rw [zac] at e; cases e; exact new
 ·rw [zai hb] at e
  exact (x b u e).stay (fun c v _ q=>k c v q) (fun c q=>by rw [zai (zan q hn)]; exact q) fun c xs q=>by rw [zai (zan q hn)]; exact q
end
def Rd (H:Hp) (a:Addr) (u:HO):Prop:=H a=some u\/∃ o,H a=some (.frz o u)
theorem Rd.ok {P:Program} {w:World} {H:Hp} {h:Heap} {a:Addr} {u:HO} (r:Rd H a u) (x:HOk P w H h):ObjOk P w H h a u:=by
 rcases r with r | ⟨o,r⟩
 ·exact x a u r
 ·obtain ⟨_,q⟩:=x a _ r
  exact q
def Mut:Option HO->Prop
 | some (.lst _)=>True
 | some (.dK _)=>True
 | some (.dT _)=>True
 | some (.set _ _)=>True
 | some (.ins _ _ _)=>True
 | some (.ext _)=>True
 | _=>False
section
variable {P:Program} {w:World} {H:Hp} {h h':Heap} {x e:Addr} {o':HO}
theorem HOk.write (ok:HOk P w H h) (mu:Mut (H x)) (he:e=x\/H e=some (.own x)) (k:∀ b u,b≠e->h.get? b=some u->h'.get? b=some u) (heo:∃ u,h'.get? e=some u)
    (new:ObjOk P w (upd H x o') h' x o'):HOk P w (upd H x o') h':=fun b u q=>by
  have nown:∀ c y,H c=some (.own y)->c≠x:=fun c y r z=>by subst z; rw [r] at mu; exact mu
  have ntup:∀ c xs,H c=some (.tup xs)->c≠x:=fun c xs r z=>by subst z; rw [r] at mu; exact mu
  by_cases hb:b=x
  · subst hb; rw [zac] at q; cases q; exact new
  · rw [zai hb] at q
    by_cases hbe:b=e
    · have q':H b=some (.own x):=by
        rcases he with z | z
        · exact absurd (hbe.trans z) hb
        · rw [hbe]; exact z
      rw [q] at q'; cases q'
      obtain ⟨v,hv⟩:=heo
      exact ⟨v,by rw [hbe]; exact hv⟩
    · refine (ok b u q).stay (fun c v hc r=>k c v ?_ r) (fun c r=>by rw [zai (nown c b r)]; exact r) fun c xs r=>by rw [zai (ntup c xs r)]; exact r
      rcases hc with rfl | hc
      · exact hbe
      · rintro rfl
        rcases he with z | z
        · exact nown c b hc z
        · rw [hc] at z; cases z; exact hb rfl
end
structure Un (fs ex:List Addr) (H H':Hp) (h h':Heap):Prop where
 keep:∀ b o,h.get? b=some o->H b=none->b ∉ fs->b ∉ ex->h'.get? b=some o
 slot:∀ b o,h.get? b=some o->H b=none->b∈fs->b ∉ ex->∃ sl,h'.get? b=some { o with slots:=sl }
 free:∀ b o,h.get? b=some o->H b=none->b ∉ ex->H' b=none
 there:∀ b o,h.get? b=some o->b ∉ ex->∃ o',h'.get? b=some o'
 tups:∀ b xs,H b=some (.tup xs)->H' b=some (.tup xs)
 frzs:∀ b o u,H b=some (.frz o u)->H' b=some (.frz o u)
 tbls:∀ b ps,H b=some (.tbl ps)->∃ more,H' b=some (.tbl (ps++more))
section
variable {fs fs' ex ex':List Addr} {H H1 H2:Hp} {h h1 h2 h':Heap} {a x e:Addr} {o:HO}
theorem Un.any (u:Un fs ex H H1 h h1) {b:Addr} {ob:Obj} (q:h.get? b=some ob) (n:H b=none) (hx:b ∉ ex):∃ sl,h1.get? b=some { ob with slots:=sl }:=by
 by_cases hb:b∈fs
 ·exact u.slot b ob q n hb hx
 ·exact ⟨ob.slots,u.keep b ob q n hb hx⟩
theorem Un.kept (k:∀ b u,h.get? b=some u->h'.get? b=some u):Un fs ex H H h h' :=
 ⟨fun b ob q _ _ _=>k b ob q,fun b ob q _ _ _=>⟨ob.slots,k b ob q⟩,fun _ _ _ n _=>n,fun b ob q _=>⟨ob,k b ob q⟩,fun _ _ q=>q,fun _ _ _ q=>q,fun _ ps q=>⟨#[],by rw [q]; simp⟩⟩
theorem Un.refl:Un fs ex H H h h:=Un.kept fun _ _ q=>q
theorem Un.laid (k:∀ b u,h.get? b=some u->h'.get? b=some u) (hp:h.objs.size<=a) (hn:H a=none):Un fs ex H (upd H a o) h h' where
 keep:=fun b u q _ _ _=>k b u q
 slot:=fun b u q _ _ _=>⟨u.slots,k b u q⟩
 free:=fun b u q n _=>by rw [zai (Nat.ne_of_lt (Nat.lt_of_lt_of_le (Heap.lt_size q) hp))]; exact n
 there:=fun b u q _=>⟨u,k b u q⟩
 tups:=fun b xs q=>by rw [zai (zan q hn)]; exact q
 frzs:=fun b u xs q=>by rw [zai (zan q hn)]; exact q
 tbls:=fun b ps q=>⟨#[],by rw [zai (zan q hn),q]; simp⟩
theorem Un.write (mu:Mut (H x)) (he:e=x\/H e=some (.own x)) (k:∀ b u,b≠e->h.get? b=some u->h'.get? b=some u) (heo:∃ u,h'.get? e=some u):Un fs ex H (upd H x o) h h':=by
 have hx:∀ b,H b=none->b≠x:=fun b n z=>by subst z; rw [n] at mu; exact mu
 have hb:∀ b,H b=none->b≠e:=fun b n z=>by
  subst z
  rcases he with r | r
  ·exact hx b n r
  ·rw [n] at r; cases r
 have hm:∀ b u,H b=some u->¬ Mut (some u)->b≠x:=fun b u q nm z=>by subst z; rw [q] at mu; exact nm mu
 refine ⟨fun b u q n _ _=>k b u (hb b n) q,fun b u q n _ _=>⟨u.slots,k b u (hb b n) q⟩,fun b u q n _=>by rw [zai (hx b n)]; exact n,fun b u q _=>?_,
  fun b xs q=>by rw [zai (hm b _ q fun z=>z)]; exact q,fun b u xs q=>by rw [zai (hm b _ q fun z=>z)]; exact q,fun b ps q=>⟨#[],by rw [zai (hm b _ q fun z=>z),q]; simp⟩⟩
 by_cases hbe:b=e
 ·subst hbe; exact heo
 ·exact ⟨u,k b u hbe q⟩
end
def trk (h:Heap) (H:Hp):List Addr:=(List.range h.objs.size).filter fun a=>(H a).isSome
def hidT (h:Heap) (H:Hp):Heap:=PySem.W.hideAll h (trk h H)
theorem zqx (h:Heap) (H:Hp):(hidT h H).objs.size=h.objs.size:=PySem.W.hideAll_size _ _
theorem ztm {h:Heap} {H:Hp} {b:Addr} {o:Obj} (e:h.get? b=some o) (n:H b=none):(hidT h H).get? b=some o :=
 PySem.W.hideAll_get _ e fun hm=>by
  have q:(H b).isSome=true:=(List.mem_filter.mp hm).2
  rw [n] at q; simp at q
theorem zvs {h:Heap} {H:Hp} {b:Addr} {o:Obj} (e:(hidT h H).get? b=some o):h.get? b=some o/\H b=none:=by
 have e':h.get? b=some o:=PySem.W.of_hideAll (trk h H) e
 refine ⟨e',?_⟩
 cases q:H b with
 | none=>rfl
 | some x =>
  have hm:b∈trk h H:=List.mem_filter.mpr ⟨List.mem_range.mpr (Heap.lt_size e'),by simp [q]⟩
  have z:(hidT h H).get? b=none:=PySem.W.hideAll_none (trk h H) hm
  rw [z] at e; cases e
def zvt (g h:Heap) (L:Addr):List (Addr×Obj):=(List.range h.objs.size).filterMap fun a=>if a=L\/(g.get? a).isSome=true then none else (h.get? a).map fun o=>(a,o)
def rest (g h:Heap) (L d:Addr):List (Addr×Obj):=(zvt g h L).filter fun p=>decide (p.1≠d)
structure Mod (K:PySem.W.Frag) (mg:Str->Option Value) (base:Heap):Prop where
 kin:K.In base
 glob:base.Ns mainGlobals mg
 blt:∃ mb,base.Ns builtinsNs mb/\∀ x:Str,x ≠ "__name__" -> mb x=bootBuiltins x
 nolimit:base.NoLimit
structure Cx where
 prog:Program
 w:World
 K:PySem.W.Frag
 mg:Str->Option Value
 base:Heap
 A:Around
 N:List Str
 s₀:Shared
 H₀:Hp
 env:Env
 outer:List Env
 stack:List Env
 ex:List Addr
 fn:Str->Bool
 calm:Bool
 pn:List (Addr×Obj)
 xe:Value->Shared->Prop
def frs (l:List Env):List Addr:=l.filterMap (·.frame)
abbrev Cx.fs (X:Cx):List Addr:=frs X.outer
def Vis (sc:Scope) (x:Str):Prop:=sc.names.lookup x=some .local\/sc.names.lookup x=some .cell\/sc.names.lookup x=some .free
def Loc (sc:Scope) (x:Str):Prop:=sc.names.lookup x=some .local\/sc.names.lookup x=some .cell
def Look (env:Env) (h:Heap) (m:Str->Option Value) (x:Str) (u:Value):Prop :=
 (env.kindOf x=some .local/\m x=some u)\/((env.kindOf x=some .cell\/env.kindOf x=some .free)/\∃ c,env.cells.lookup x=some c/\h.IsCell c (some u))
structure Cx.Ok (X:Cx):Prop where
 mod:Mod X.K X.mg X.base
 kind:X.env.scope.kind = .function
 glob:X.env.globals=mainGlobals
 blt:X.env.builtins=builtinsNs
 above:X.s₀.heap.objs.size<=X.env.locals
 inj:∀ x y c,X.env.cells.lookup x=some c->X.env.cells.lookup y=some c->x=y
 has:∀ x,(X.env.kindOf x=some .cell\/X.env.kindOf x=some .free)->∃ c,X.env.cells.lookup x=some c
 cab:∀ x c,X.fn x=true->X.env.cells.lookup x=some c->X.s₀.heap.objs.size<=c
 hd:X.calm=true->X.A.handled=none
 frames:X.A.frames=some X.stack
 stk:X.stack=X.outer\/(X.stack=X.env :: X.outer/\X.env.frame=some X.env.locals)
 exf:∀ b∈X.ex,b≠X.env.locals/\∀ x c,X.env.cells.lookup x=some c->c≠b
 bs:∀ b o,X.base.get? b=some o->X.s₀.heap.get? b=some o/\X.H₀ b=none
 bsz:X.base.objs.size<=X.s₀.heap.objs.size
 noex:∀ b o,X.base.get? b=some o->b ∉ X.ex
 exfs:∀ b∈X.ex,b ∉ X.fs
 funs:X.s₀.heap.FunFrames X.base X.outer
 frf:∀ b∈X.fs,X.H₀ b=none
structure Inv (X:Cx) (pins:List (Addr×Obj)) (σ:List (Option V)) (H:Hp) (s:Shared):Prop where
 ok:X.Ok
 os:s.os=X.s₀.os
 bare:AllBare s.gens
 base:Un X.fs X.ex X.H₀ H X.s₀.heap s.heap
 loc:∃ m,s.heap.Ns X.env.locals m/\∀ (i:Nat) (x:Str) (v:V),X.N[i]? = some x->σ[i]? = some (some v)->Vis X.env.scope x->∃ u,RelV v u/\Look X.env s.heap m x u
 cell:∀ x c,X.env.cells.lookup x=some c->∃ v,s.heap.IsCell c v
 free:H X.env.locals=none
 freeC:∀ x c,X.env.cells.lookup x=some c->H c=none
 pin:∀ p∈X.pn++pins,s.heap.get? p.1=some p.2/\H p.1=none/\p.1≠X.env.locals/\p.1 ∉ X.fs/\∀ v,p.2.data≠.cell v
 hok:HOk X.prog X.w H s.heap
 len:σ.length=X.N.length
section
variable {X:Cx} {pins:List (Addr×Obj)} {σ:List (Option V)} {H H':Hp} {s:Shared} {h':Heap}
theorem Cx.Ok.nofr (ok:X.Ok) {b:Addr} {o:Obj} (e:X.base.get? b=some o):b ∉ X.fs:=fun hb=>by
 have:=(ok.funs.mem hb).1
 rw [e] at this; cases this
theorem Inv.bs (I:Inv X pins σ H s):∀ b o,X.base.get? b=some o->s.heap.get? b=some o/\H b=none:=fun b o e =>
 ⟨I.base.keep b o (I.ok.bs b o e).1 (I.ok.bs b o e).2 (I.ok.nofr e) (I.ok.noex b o e),I.base.free b o (I.ok.bs b o e).1 (I.ok.bs b o e).2 (I.ok.noex b o e)⟩
theorem Inv.bk (I:Inv X pins σ H s):∀ b o,X.base.get? b=some o->s.heap.get? b=some o:=fun b o e=>(I.bs b o e).1
theorem Inv.mod (I:Inv X pins σ H s):Mod X.K X.mg X.base:=I.ok.mod
theorem Inv.kIn (I:Inv X pins σ H s):X.K.In s.heap:=I.ok.mod.kin.keeps I.bk
theorem Inv.lt (I:Inv X pins σ H s):X.env.locals<s.heap.objs.size:=let ⟨_,hn,_⟩:=I.loc; hn.lt
theorem Inv.sz (I:Inv X pins σ H s):X.s₀.heap.objs.size<=s.heap.objs.size:=Nat.le_trans I.ok.above (Nat.le_of_lt I.lt)
theorem Inv.nofs (I:Inv X pins σ H s) {a:Addr} (h:s.heap.objs.size<=a):a ∉ X.fs:=fun hb=>by
 obtain ⟨_,o,ho,_⟩:=I.ok.funs.mem hb
 exact absurd (Nat.lt_of_lt_of_le (Heap.lt_size ho) (Nat.le_trans I.sz h)) (Nat.lt_irrefl _)
theorem Inv.cne (I:Inv X pins σ H s):∀ x c,X.env.cells.lookup x=some c->c≠X.env.locals:=fun x c e z=>by
 obtain ⟨v,o,ho,hd⟩:=I.cell x c e
 obtain ⟨m,⟨o',es,ep,ho',hd',_⟩,_⟩:=I.loc
 rw [z,ho'] at ho; cases ho; rw [hd'] at hd; cases hd
theorem Inv.funs (I:Inv X pins σ H s):s.heap.FunFrames X.base X.outer:=by
 have all:∀ (l:List Env),(∀ b∈frs l,b∈X.fs)->X.s₀.heap.FunFrames X.base l->s.heap.FunFrames X.base l:=by
  intro l
  induction l with
  | nil=>intro _ _; trivial
  | cons env r ih =>
   intro hs hl
   obtain ⟨hk,⟨L,o,hf,hn,ho,hd⟩,hr⟩:=hl
   have hL:L∈X.fs:=hs L (by unfold frs; rw [List.filterMap_cons,hf]; exact List.mem_cons_self)
   obtain ⟨sl,e⟩:=I.base.slot L o ho (I.ok.frf L hL) hL fun z=>I.ok.exfs L z hL
   exact ⟨hk,⟨L,_,hf,hn,e,hd⟩,ih (fun b hb=>hs b (by unfold frs; rw [List.filterMap_cons,hf]; exact List.mem_cons_of_mem _ hb)) hr⟩
 exact all X.outer (fun _ hb=>hb) I.ok.funs
theorem Inv.stack (I:Inv X pins σ H s):s.heap.FunFrames X.base X.stack:=by
 rcases I.ok.stk with e | ⟨e,hf⟩
 ·rw [e]; exact I.funs
 ·rw [e]
  obtain ⟨m,hn,_⟩:=I.loc
  refine .cons (by rw [I.ok.kind]; decide) hf hn ?_ I.funs
  exact Heap.get?_none_of_le (Nat.le_trans I.ok.bsz I.ok.above)
theorem Inv.stkSub (I:Inv X pins σ H s):∀ b∈frs X.stack,b∈X.env.locals :: X.fs:=fun b hb=>by
 rcases I.ok.stk with e | ⟨e,hf⟩
 ·rw [e] at hb; exact List.mem_cons_of_mem _ hb
 ·rw [e] at hb
  unfold frs at hb
  rw [List.filterMap_cons,hf] at hb
  exact hb
theorem Inv.stkFree (I:Inv X pins σ H s):∀ b∈frs X.stack,H b=none:=fun b hb=>by
 rcases List.mem_cons.mp (I.stkSub b hb) with e | hb
 ·rw [e]; exact I.free
 ·obtain ⟨_,o,ho,_⟩:=I.ok.funs.mem hb
  exact I.base.free b o ho (I.ok.frf b hb) fun z=>I.ok.exfs b z hb
theorem Inv.step {g':Array GenState} {t':Nat} {d':Drawn} {ch:List Addr} (I:Inv X pins σ H s)
    (hch:∀ b∈ch,(b∈X.ex\/X.s₀.heap.objs.size<=b)/\b≠X.env.locals/\(∀ x c,X.env.cells.lookup x=some c->c≠b)/\∀ p∈X.pn++pins,p.1≠b)
    (keep:∀ b o,b≠X.env.locals->b ∉ X.fs->b ∉ ch->s.heap.get? b=some o->H b=none->h'.get? b=some o)
    (slot:∀ b o,b≠X.env.locals->b∈X.fs->b ∉ ch->s.heap.get? b=some o->H b=none->∃ sl,h'.get? b=some { o with slots:=sl }) (free:∀ b o,b ∉ ch->s.heap.get? b=some o->H b=none->H' b=none)
    (there:∀ b o,b ∉ ch->s.heap.get? b=some o->∃ o',h'.get? b=some o')
    (tups:∀ b xs,H b=some (.tup xs)->H' b=some (.tup xs)) (frzs:∀ b o u,H b=some (.frz o u)->H' b=some (.frz o u)) (tbls:∀ b ps,H b=some (.tbl ps)->∃ more,H' b=some (.tbl (ps++more)))
    (ns:∀ m,s.heap.Ns X.env.locals m->h'.Ns X.env.locals m) (hok:HOk X.prog X.w H' h') (hg:AllBare g') :
    Inv X pins σ H' { s with heap:=h',gens:=g',drawn:=d',toks:=t' }:=by
  have neL:∀ b o,X.s₀.heap.get? b=some o->b≠X.env.locals:=fun b o e=>Nat.ne_of_lt (Nat.lt_of_lt_of_le (Heap.lt_size e) I.ok.above)
  have neC:∀ b o,X.s₀.heap.get? b=some o->b ∉ X.ex->b ∉ ch:=fun b o e hx hb=>by
    rcases (hch b hb).1 with z | z
    · exact hx z
    · exact absurd (Nat.lt_of_lt_of_le (Heap.lt_size e) z) (Nat.lt_irrefl _)
  have cellK:∀ x c,X.env.cells.lookup x=some c->∀ v,s.heap.IsCell c v->h'.IsCell c v:=fun x c e v ⟨o,ho,hd⟩=>by
    have nch:c ∉ ch:=fun z=>(hch c z).2.2.1 x c e rfl
    by_cases hc:c∈X.fs
    · obtain ⟨sl,q⟩:=slot c o (I.cne x c e) hc nch ho (I.freeC x c e)
      exact ⟨_,q,hd⟩
    · exact ⟨o,keep c o (I.cne x c e) hc nch ho (I.freeC x c e),hd⟩
  refine ⟨I.ok,I.os,hg,⟨fun b o e n hb hx=>?_,fun b o e n hb hx=>?_,fun b o e n hx=>?_,fun b o e hx=>?_,fun b xs e=>tups b xs (I.base.tups b xs e),fun b o xs e=>frzs b o xs (I.base.frzs b o xs e),fun b ps e=>?_⟩,?_,fun x c e=>?_,?_,fun x c e=>?_,fun p hp=>?_,hok,I.len⟩
  · exact keep b o (neL b o e) hb (neC b o e hx) (I.base.keep b o e n hb hx) (I.base.free b o e n hx)
  · obtain ⟨sl,e1⟩:=I.base.slot b o e n hb hx
    obtain ⟨sl',e2⟩:=slot b _ (neL b o e) hb (neC b o e hx) e1 (I.base.free b o e n hx)
    exact ⟨sl',e2⟩
  · obtain ⟨o',e1⟩:=I.base.there b o e hx
    exact free b o' (neC b o e hx) e1 (I.base.free b o e n hx)
  · obtain ⟨o',e1⟩:=I.base.there b o e hx
    exact there b o' (neC b o e hx) e1
  · obtain ⟨m1,e1⟩:=I.base.tbls b ps e
    obtain ⟨m2,e2⟩:=tbls b _ e1
    exact ⟨m1++m2,by rw [e2,Array.append_assoc]⟩
  · obtain ⟨m,hn,hl⟩:=I.loc
    refine ⟨m,ns m hn,fun i x v e1 e2 e3=>?_⟩
    obtain ⟨u,r,l⟩:=hl i x v e1 e2 e3
    refine ⟨u,r,?_⟩
    rcases l with l | ⟨k,c,e,z⟩
    · exact .inl l
    · exact .inr ⟨k,c,e,cellK x c e _ z⟩
  · obtain ⟨v,z⟩:=I.cell x c e
    exact ⟨v,cellK x c e v z⟩
  · obtain ⟨m,⟨o,_,_,ho,_⟩,_⟩:=I.loc
    exact free _ o (fun z=>(hch _ z).2.1 rfl) ho I.free
  · obtain ⟨v,o,ho,hd⟩:=I.cell x c e
    exact free c o (fun z=>(hch c z).2.2.1 x c e rfl) ho (I.freeC x c e)
  · obtain ⟨e,n,ne,nf,d⟩:=I.pin p hp
    have nch:p.1 ∉ ch:=fun z=>(hch p.1 z).2.2.2 p hp rfl
    exact ⟨keep p.1 p.2 ne nf nch e n,free p.1 p.2 nch e n,ne,nf,d⟩
theorem Inv.un {t':Nat} (I:Inv X pins σ H s) (u:Un X.fs [] H H' s.heap h') (hok:HOk X.prog X.w H' h'):Inv X pins σ H' { s with heap:=h',toks:=t' }:=by
 obtain ⟨m,⟨o,es,ep,ho,r⟩,_⟩:=id I.loc
 obtain ⟨sl,hL⟩:=u.any ho I.free (by simp)
 exact I.step (g':=s.gens) (d':=s.drawn) (ch:=[]) (fun _ z=>nomatch z) (fun b o _ hb _ e n=>u.keep b o e n hb (by simp)) (fun b o _ hb _ e n=>u.slot b o e n hb (by simp)) (fun b o _ e n=>u.free b o e n (by simp)) (fun b o _ e=>u.there b o e (by simp)) u.tups u.frzs u.tbls (fun m' hm=>by
  obtain ⟨o',es',ep',ho',r'⟩:=hm
  rw [ho] at ho'; cases ho'
  exact ⟨_,es',ep',hL,r'⟩) hok I.bare
theorem Inv.call {g':Array GenState} {t':Nat} {d':Drawn} {ch:List Addr} (I:Inv X pins σ H s) (u:Un (frs X.stack) ch H H' s.heap h') (hok:HOk X.prog X.w H' h') (hg:AllBare g')
    (hch:∀ b∈ch,(b∈X.ex\/X.s₀.heap.objs.size<=b)/\b≠X.env.locals/\(∀ x c,X.env.cells.lookup x=some c->c≠b)/\∀ p∈X.pn++pins,p.1≠b) :
    Inv X pins σ H' { s with heap:=h',gens:=g',drawn:=d',toks:=t' }:=by
  obtain ⟨m,⟨o,es,ep,ho,r⟩,_⟩:=id I.loc
  obtain ⟨sl,hL⟩:=u.any ho I.free fun z=>(hch _ z).2.1 rfl
  exact I.step (ch:=ch) hch (fun b o hL hb hc e n=>u.keep b o e n (fun z=>(List.mem_cons.mp (I.stkSub b z)).elim hL hb) hc) (fun b o _ _ hc e n=>u.any e n hc) (fun b o hc e n=>u.free b o e n hc) (fun b o hc e=>u.there b o e hc) u.tups u.frzs u.tbls (fun m' hm=>by
    obtain ⟨o',es',ep',ho',r'⟩:=hm
    rw [ho] at ho'; cases ho'
    exact ⟨_,es',ep',hL,r'⟩) hok hg
theorem Inv.turned {t':Nat} {it:Addr} (I:Inv X pins σ H s) (k:∀ b o,b≠it->s.heap.get? b=some o->h'.get? b=some o) (hn:H it=none) (hL:it≠X.env.locals)
    (h1:it∈X.ex\/X.s₀.heap.objs.size<=it) (h2:∀ x c,X.env.cells.lookup x=some c->c≠it) (h3:∀ p∈X.pn++pins,p.1≠it):Inv X pins σ H { s with heap:=h',toks:=t' }:=by
  have nit:∀ b u,H b=some u->b≠it:=fun b u e z=>by rw [z,hn] at e; cases e
  refine I.step (g':=s.gens) (d':=s.drawn) (ch:=[it]) (fun b hb=>?_) (fun b o _ _ hc e _=>k b o (fun z=>hc (by simp [z])) e) (fun b o _ _ hc e _=>⟨o.slots,k b o (fun z=>hc (by simp [z])) e⟩) (fun _ _ _ _ n=>n)
    (fun b o hc e=>⟨o,k b o (fun z=>hc (by simp [z])) e⟩) (fun _ _ e=>e) (fun _ _ _ e=>e) (fun b ps e=>⟨#[],by rw [e]; simp⟩) (fun m hm=>?_) (fun b u e=>?_) I.bare
  · have e:b=it:=by simpa using hb
    subst e
    exact ⟨h1,hL,h2,h3⟩
  · obtain ⟨o,es,ep,ho,r⟩:=hm
    exact ⟨o,es,ep,k _ o (Ne.symm hL) ho,r⟩
  · refine (I.hok b u e).stay (fun c v hc q=>k c v ?_ q) (fun _ q=>q) fun _ _ q=>q
    rcases hc with z | z
    · rw [z]; exact nit b u e
    · exact nit c _ z
theorem Inv.tok (I:Inv X pins σ H s) (t:Nat):Inv X pins σ H { s with toks:=t }:=I.un (h':=s.heap) (t':=t) Un.refl I.hok
theorem Inv.kept {t':Nat} (I:Inv X pins σ H s) (k:∀ b u,s.heap.get? b=some u->h'.get? b=some u):Inv X pins σ H { s with heap:=h',toks:=t' }:=I.un (Un.kept k) (I.hok.kept k)
theorem Inv.laid {a:Addr} {o:HO} {t':Nat} (I:Inv X pins σ H s) (k:∀ b u,s.heap.get? b=some u->h'.get? b=some u) (hp:s.heap.objs.size<=a) (new:ObjOk X.prog X.w (upd H a o) h' a o) :
    Inv X pins σ (upd H a o) { s with heap:=h',toks:=t' }:=I.un (Un.laid k hp (I.hok.fresh hp)) (I.hok.laid k hp new)
theorem Inv.write {x e:Addr} {o:HO} {t':Nat} (I:Inv X pins σ H s) (mu:Mut (H x)) (he:e=x\/H e=some (.own x)) (k:∀ b u,b≠e->s.heap.get? b=some u->h'.get? b=some u) (heo:∃ u,h'.get? e=some u)
    (new:ObjOk X.prog X.w (upd H x o) h' x o):Inv X pins σ (upd H x o) { s with heap:=h',toks:=t' }:=I.un (Un.write mu he k heo) (I.hok.write mu he k heo new)
theorem Inv.pins_of {pins':List (Addr×Obj)} (I:Inv X pins σ H s) (h:∀ p∈pins',s.heap.get? p.1=some p.2/\H p.1=none/\p.1≠X.env.locals/\p.1 ∉ X.fs/\∀ v,p.2.data≠.cell v):Inv X pins' σ H s :=
 ⟨I.ok,I.os,I.bare,I.base,I.loc,I.cell,I.free,I.freeC,fun p hp=>(List.mem_append.mp hp).elim (fun z=>I.pin p (List.mem_append_left _ z)) (h p),I.hok,I.len⟩
theorem zou {N:List Str} (hN:N.Nodup) {i j:Nat} {x:Str} (a:N[i]? = some x) (b:N[j]? = some x):i=j:=by
 obtain ⟨h1,e1⟩:=List.getElem?_eq_some_iff.mp a
 obtain ⟨h2,e2⟩:=List.getElem?_eq_some_iff.mp b
 exact (List.getElem_inj hN).mp (e1.trans e2.symm)
theorem zmk {M:Model} {A:Around} {E:Value->Shared->Prop} {i:Nat} {x:Str} {v:V} {u:Value} {Q:Unit->Shared->Prop} (I:Inv X pins σ H s) (hN:X.N.Nodup) (hi:X.N[i]? = some x) (hx:Loc X.env.scope x) (r:RelV v u)
    (h:∀ s',Inv X pins (σ.set i (some v)) H s'->(∃ a,Heap.SameBut a s.heap s'.heap/\(a=X.env.locals\/X.env.cells.lookup x=some a))->Q () s') (hf:X.fn x=true\/X.env.scope.names.lookup x=some .local:=by first | exact .inl rfl | exact .inr rfl | assumption):wpAny M A (storeName X.env x u) Q E s:=by
  obtain ⟨m,hn,hl⟩:=id I.loc
  have hcls:(X.env.scope.kind == .class || (X.env.scope.kind == .module && X.env.locals != X.env.globals))=false:=by rw [I.ok.kind]; rfl
  have hiσ:i < σ.length:=by rw [I.len]; exact (List.getElem?_eq_some_iff.mp hi).1
  have cne:=I.cne
  have tracked:∀ {a:Addr} {h':Heap},(∃ o,s.heap.get? a=some o/\H a=none)->Heap.SameBut a s.heap h'->HOk X.prog X.w H h':=fun {a h'} ha hs b ob e=>by
    obtain ⟨_,_,hfree⟩:=ha
    refine (I.hok b ob e).stay (fun c w' hc q=>(hs.2 c ?_).trans q) (fun _ q=>q) fun _ _ q=>q
    rintro rfl
    rcases hc with rfl | hc
    · rw [hfree] at e; cases e
    · rw [hfree] at hc; cases hc
  rcases hx with hk | hk
  · refine wpAny_storeName_local hk hn (fun h' hn' hs=>?_) hcls
    obtain ⟨oL,_,_,hoL,_⟩:=id hn
    refine h _ ⟨I.ok,I.os,I.bare,⟨fun b o e n hb hx=>?_,fun b o e n hb hx=>?_,I.base.free,fun b o e hx=>?_,I.base.tups,I.base.frzs,I.base.tbls⟩,⟨_,hn',fun j y v' e1 e2 e3=>?_⟩,fun y c e=>?_,I.free,I.freeC,fun p hp=>?_,tracked ⟨oL,hoL,I.free⟩ hs,by simpa using I.len⟩ ⟨_,hs,.inl rfl⟩
    · exact (hs.2 b (Nat.ne_of_lt (Nat.lt_of_lt_of_le (Heap.lt_size e) I.ok.above))).trans (I.base.keep b o e n hb hx)
    · obtain ⟨sl,e1⟩:=I.base.slot b o e n hb hx
      exact ⟨sl,(hs.2 b (Nat.ne_of_lt (Nat.lt_of_lt_of_le (Heap.lt_size e) I.ok.above))).trans e1⟩
    · obtain ⟨o',e1⟩:=I.base.there b o e hx
      exact ⟨o',(hs.2 b (Nat.ne_of_lt (Nat.lt_of_lt_of_le (Heap.lt_size e) I.ok.above))).trans e1⟩
    · by_cases hj:j=i
      · subst hj
        rw [hi] at e1; cases e1
        rw [List.getElem?_set_self hiσ] at e2
        cases e2
        exact ⟨u,r,.inl ⟨hk,by simp⟩⟩
      · rw [List.getElem?_set_ne (Ne.symm hj)] at e2
        obtain ⟨u',r',q⟩:=hl j y v' e1 e2 e3
        refine ⟨u',r',?_⟩
        rcases q with ⟨k,e⟩ | ⟨k,c,e,z⟩
        · refine .inl ⟨k,?_⟩
          have:y≠x:=fun e=>hj (zou hN e1 (e ▸ hi))
          simp [this,e]
        · exact .inr ⟨k,c,e,z.sameBut hs (cne y c e)⟩
    · obtain ⟨w',z⟩:=I.cell y c e
      exact ⟨w',z.sameBut hs (cne y c e)⟩
    · obtain ⟨e,n,ne,nf,d⟩:=I.pin p hp
      exact ⟨(hs.2 p.1 ne).trans e,n,ne,nf,d⟩
  · have hfn:X.fn x=true:=by
      rcases hf with z | z
      · exact z
      · rw [z] at hk; cases hk
    obtain ⟨c,hc⟩:=I.ok.has x (.inl hk)
    obtain ⟨w',z⟩:=I.cell x c hc
    refine wpAny_storeName_cell I.ok.kind hk hc z (fun h' hc' hs=>?_)
    obtain ⟨oc,hoc,hocd⟩:=id z
    refine h { s with heap:=h' } ⟨I.ok,I.os,I.bare,⟨fun b o e n hb hx=>?_,fun b o e n hb hx=>?_,I.base.free,fun b o e hx=>?_,I.base.tups,I.base.frzs,I.base.tbls⟩,⟨m,hn.sameBut hs (Ne.symm (cne x c hc)),fun j y v' e1 e2 e3=>?_⟩,fun y c' e=>?_,I.free,I.freeC,fun p hp=>?_,tracked ⟨oc,hoc,I.freeC x c hc⟩ hs,by simpa using I.len⟩ ⟨c,hs,.inr hc⟩
    · exact (hs.2 b (Nat.ne_of_lt (Nat.lt_of_lt_of_le (Heap.lt_size e) (I.ok.cab x c hfn hc)))).trans (I.base.keep b o e n hb hx)
    · obtain ⟨sl,e1⟩:=I.base.slot b o e n hb hx
      exact ⟨sl,(hs.2 b (Nat.ne_of_lt (Nat.lt_of_lt_of_le (Heap.lt_size e) (I.ok.cab x c hfn hc)))).trans e1⟩
    · obtain ⟨o',e1⟩:=I.base.there b o e hx
      exact ⟨o',(hs.2 b (Nat.ne_of_lt (Nat.lt_of_lt_of_le (Heap.lt_size e) (I.ok.cab x c hfn hc)))).trans e1⟩
    · by_cases hj:j=i
      · subst hj
        rw [hi] at e1; cases e1
        rw [List.getElem?_set_self hiσ] at e2
        cases e2
        exact ⟨u,r,.inr ⟨.inl hk,c,hc,hc'⟩⟩
      · rw [List.getElem?_set_ne (Ne.symm hj)] at e2
        obtain ⟨u',r',q⟩:=hl j y v' e1 e2 e3
        refine ⟨u',r',?_⟩
        rcases q with q | ⟨k,c',e,z'⟩
        · exact .inl q
        · refine .inr ⟨k,c',e,z'.sameBut hs ?_⟩
          rintro rfl
          exact hj (zou hN e1 (I.ok.inj _ _ _ e hc ▸ hi))
    · by_cases hcc:c'=c
      · subst hcc; exact ⟨_,hc'⟩
      · obtain ⟨w2,z2⟩:=I.cell y c' e
        exact ⟨w2,z2.sameBut hs hcc⟩
    · obtain ⟨e,n,ne,nf,d⟩:=I.pin p hp
      refine ⟨(hs.2 p.1 ?_).trans e,n,ne,nf,d⟩
      intro q
      rw [q,hoc] at e
      have q':oc=p.2:=Option.some.inj e
      exact d w' (by rw [<- q']; exact hocd)
theorem zov {M:Model} {A:Around} {E:Value->Shared->Prop} {i:Nat} {x:Str} {v:V} {u:Value} {Q:Unit->Shared->Prop} (I:Inv X pins σ H s) (hN:X.N.Nodup) (hi:X.N[i]? = some x) (hx:Loc X.env.scope x) (r:RelV v u)
    (h:∀ s',Inv X pins (σ.set i (some v)) H s'->Q () s') (hf:X.fn x=true\/X.env.scope.names.lookup x=some .local:=by first | exact .inl rfl | exact .inr rfl | assumption):wpAny M A (storeName X.env x u) Q E s :=
  zmk I hN hi hx r (fun s' I' _=>h s' I') hf
theorem Inv.call' {s':Shared} {ch:List Addr} (I:Inv X pins σ H s) (ho:s'.os=s.os) (u:Un (frs X.stack) ch H H' s.heap s'.heap) (hok:HOk X.prog X.w H' s'.heap) (hg:AllBare s'.gens)
    (hch:∀ b∈ch,(b∈X.ex\/X.s₀.heap.objs.size<=b)/\b≠X.env.locals/\(∀ x c,X.env.cells.lookup x=some c->c≠b)/\∀ p∈X.pn++pins,p.1≠b):Inv X pins σ H' s':=by
  obtain ⟨h',g',d',t',o'⟩:=s'
  have e:o'=s.os:=ho
  subst e
  exact I.call (g':=g') (t':=t') (d':=d') u hok hg hch
end
abbrev XK:=Value->Option Addr->Hp->Prop
abbrev St:=List (Option V)
abbrev VK:=V->Hp->Prop
abbrev TE:=St->Hp->VK->Prop
abbrev TT:=St->Hp->(Bool->Hp->Prop)->Prop
abbrev TA:=St->Hp->(List V->Hp->Prop)->Prop
structure Ends where
 nx:St->Hp->Prop
 rt:VK
 bk:St->Hp->Prop:=fun _ _=>False
 ct:St->Hp->Prop:=fun _ _=>False
abbrev TS:=Ends->St->Hp->Prop
def EP (X:Cx) (pins:List (Addr×Obj)) (σ:St) (Q:VK) (u:Value) (s':Shared):Prop:=∃ v H',Inv X pins σ H' s'/\RelV v u/\Q v H'
def TP (X:Cx) (pins:List (Addr×Obj)) (σ:St) (Q:Bool->Hp->Prop) (b:Bool) (s':Shared):Prop:=∃ H',Inv X pins σ H' s'/\Q b H'
def AP (X:Cx) (pins:List (Addr×Obj)) (σ:St) (Q:List V->Hp->Prop) (us:List Value) (s':Shared):Prop:=∃ vs H',Inv X pins σ H' s'/\Vals vs us/\Q vs H'
def SP (X:Cx) (pins:List (Addr×Obj)) (D:Ends) (f:Flow) (s':Shared):Prop :=
 match f with
 | .next=>∃ σ' H',Inv X pins σ' H' s'/\D.nx σ' H'
 | .brk=>∃ σ' H',Inv X pins σ' H' s'/\D.bk σ' H'
 | .cont=>∃ σ' H',Inv X pins σ' H' s'/\D.ct σ' H'
 | .ret u=>∃ v σ' H',Inv X pins σ' H' s'/\RelV v u/\D.rt v H'
def PE (X:Cx) (e:Expr) (t:TE):Prop :=
 ∀ (pins:List (Addr×Obj)) (s:Shared) (σ:St) (H:Hp) (Q:VK),Inv X pins σ H s->t σ H Q->wpAny (model X.prog X.w) X.A (eval e X.env) (EP X pins σ Q) X.xe s
def PT (X:Cx) (e:Expr) (t:TT):Prop :=
 ∀ (pins:List (Addr×Obj)) (s:Shared) (σ:St) (H:Hp) (Q:Bool->Hp->Prop),Inv X pins σ H s->t σ H Q->wpAny (model X.prog X.w) X.A (isTrue e X.env (eval e X.env)) (TP X pins σ Q) X.xe s
def PW (X:Cx) (e:Expr) (t:TT):Prop :=
 ∀ (whole:Sem Value) (pins:List (Addr×Obj)) (s:Shared) (σ:St) (H:Hp) (Q:Bool->Hp->Prop),Inv X pins σ H s->t σ H Q->wpAny (model X.prog X.w) X.A (isTrue e X.env whole) (TP X pins σ Q) X.xe s
theorem PW.pt {X:Cx} {e:Expr} {t:TT} (h:PW X e t):PT X e t:=h _
def PA (X:Cx) (es:List Expr) (t:TA):Prop :=
 ∀ (pos:Pos) (pins:List (Addr×Obj)) (s:Shared) (σ:St) (H:Hp) (Q:List V->Hp->Prop),Inv X pins σ H s->t σ H Q->wpAny (model X.prog X.w) X.A (spliced (backTo pos (starEach es X.env))) (AP X pins σ Q) X.xe s
def PS (X:Cx) (st:Stmt) (t:TS):Prop :=
 ∀ (pins:List (Addr×Obj)) (s:Shared) (σ:St) (H:Hp) (D:Ends),Inv X pins σ H s->t D σ H->wpAny (model X.prog X.w) X.A (exec st X.env) (SP X pins D) X.xe s
def PSs (X:Cx) (st:List Stmt) (t:TS):Prop :=
 ∀ (pins:List (Addr×Obj)) (s:Shared) (σ:St) (H:Hp) (D:Ends),Inv X pins σ H s->t D σ H->wpAny (model X.prog X.w) X.A (execs st X.env) (SP X pins D) X.xe s
theorem thn {α:Type} {t:Sem α} {Q Q':α->Shared->Prop} {M:Model} {A:Around} {E:Value->Shared->Prop} {s:Shared} (h:wpAny M A t Q E s) (hQ:∀ a s,Q a s->Q' a s):wpAny M A t Q' E s:=wpAny_mono h hQ fun _ _ x=>x
section
variable {X:Cx}
def tVar (i:Nat):TE:=fun σ H Q=>∃ v,σ[i]? = some (some v)/\Q v H
def tC (v:V):TE:=fun _ H Q=>Q v H
theorem zyb {i:Nat} {x:Str} {pos:Pos} (hN:X.N[i]? = some x) (hv:Vis X.env.scope x) (hd:(x == ("__debug__" : Str))=false:=by decide) (hcd:(x == ("__classdict__" : Str))=false:=by decide):PE X (.Name x pos) (tVar i):=by
 intro pins s σ H Q I h
 obtain ⟨v,e,h⟩:=h
 obtain ⟨m,hn,hl⟩:=I.loc
 obtain ⟨u,r,l⟩:=hl i x v hN e hv
 have fin:EP X pins σ Q u s:=⟨v,H,I,r,h⟩
 rcases l with ⟨hk,hm⟩ | ⟨hk,c,hc,hcell⟩
 ·exact wpAny_Name (wpAny_loadName_local I.ok.kind hk hn hm fin) hd
 ·rcases hk with hk | hk
  ·exact wpAny_Name (wpAny_loadName_cell I.ok.kind hk hc hcell fin) hd
  ·exact wpAny_Name (wpAny_loadName_free I.ok.kind hk hc hcell fin hcd) hd
theorem zam {i j pos}:PE X (.Constant (.int i) j pos) (tC (.int i)):=fun _ _ _ H _ I h=>wpAny_Constant_int ⟨.int i,H,I.tok _,⟨_,rfl⟩,h⟩
theorem pe_bl {b j pos}:PE X (.Constant (.bool b) j pos) (tC (.bl b)):=fun _ _ _ H _ I h=>Constant_bool ⟨.bl b,H,I,rfl,h⟩
theorem zdn {j pos}:PE X (.Constant .none j pos) (tC .non):=fun _ _ _ H _ I h=>Constant_none ⟨.non,H,I,rfl,h⟩
theorem zbz {x j pos}:PE X (.Constant (.str x) j pos) (tC (.str x)):=fun _ _ _ H _ I h=>Calls.Constant_str ⟨.str x,H,I.tok _,⟨_,rfl⟩,h⟩
def Gl (X:Cx) (x:Str):Prop:=X.env.kindOf x=some .globalImplicit
theorem zhx {E:Value->Shared->Prop} {pins:List (Addr×Obj)} {s:Shared} {σ:St} {H:Hp} {x:Str} {u:Value} {pos:Pos} {Q:Value->Shared->Prop} (I:Inv X pins σ H s) (hg:Gl X x) (hm:X.mg x=some u) (h:Q u s)
    (hd:(x == ("__debug__" : Str))=false:=by decide):wpAny (model X.prog X.w) X.A (eval (.Name x pos) X.env) Q E s :=
  Calls.Name_function_global I.ok.kind hg (Calls.loadGlobal_global (by rw [I.ok.glob]; exact I.mod.glob.keeps I.bk) hm h) hd
theorem zow {E:Value->Shared->Prop} {pins:List (Addr×Obj)} {s:Shared} {σ:St} {H:Hp} {x:Str} {u:Value} {pos:Pos} {Q:Value->Shared->Prop} (I:Inv X pins σ H s) (hg:Gl X x) (hm:X.mg x=none) (hv:bootBuiltins x=some u) (h:Q u s)
    (hn:x ≠ "__name__" := by decide) (hd:(x == ("__debug__" : Str))=false:=by decide):wpAny (model X.prog X.w) X.A (eval (.Name x pos) X.env) Q E s:=by
  obtain ⟨mb,h1,h2⟩:=I.mod.blt
  exact Calls.Name_function_global I.ok.kind hg (Calls.loadGlobal_builtin (by rw [I.ok.glob]; exact I.mod.glob.keeps I.bk) hm (by rw [I.ok.blt]; exact h1.keeps I.bk) ((h2 x hn).trans hv) h) hd
theorem zlo {x:Str} {v:V} {u:Value} {pos:Pos} (hg:Gl X x) (hm:X.mg x=some u) (r:RelV v u) (hd:(x == ("__debug__" : Str))=false:=by decide):PE X (.Name x pos) (tC v) :=
 fun _ _ _ H _ I h=>zhx I hg hm ⟨v,H,I,r,h⟩ hd
variable {a b:Expr} {ta tb:TE} {pos:Pos}
def PC (X:Cx) (op:CmpOp) (a b:Expr) (t:TE):Prop :=
 ∀ (pins:List (Addr×Obj)) (s:Shared) (σ:St) (H:Hp) (Q:VK),Inv X pins σ H s->t σ H Q ->
  wpAny (model X.prog X.w) X.A (eval a X.env) (fun v s₁=>wpAny (model X.prog X.w) X.A (eval b X.env) (fun u s₂=>wpAny (model X.prog X.w) X.A (compareOp op v u) (EP X pins σ Q) X.xe s₂) X.xe s₁) X.xe s
def tB (t:TE):TT:=fun σ H Q=>t σ H fun x H1=>∃ c,x = .bl c/\Q c H1
theorem zjh {op:CmpOp} {t:TE} (h:PC X op a b t) (h1:behindInMarks op b=false:=by first | exact nobehind _ (by decide) (by decide) | rfl):PT X (.Compare a [op] [b] pos) (tB t):=by
 intro pins s σ H Q I hw
 refine wpAny_isTrue_Compare1 (thn (h pins s σ H _ I hw) fun v s1 h1=>thn h1 fun u s2 h2=>thn h2 fun c s3 ⟨x,H1,I1,r1,q1⟩=>?_) h1
 obtain ⟨d,rfl,q⟩:=q1
 cases r1
 exact wpAny_truthy_bool ⟨H1,I1,q⟩
theorem zlb {e:Expr} {t:TE} (h:PE X e t) (he:∀ whole,isTrue e X.env whole=(do let v <- whole; standAt e.pos; holding [v] (truthy v)):=by intro _; rfl):PT X e (tB t):=by
 intro pins s σ H Q I hw
 refine isTrue_plain (thn (h pins s σ H _ I hw) fun v s1 ⟨x,H1,I1,r1,q1⟩=>?_) (he _)
 obtain ⟨d,rfl,q⟩:=q1
 cases r1
 exact wpAny_truthy_bool ⟨H1,I1,q⟩
variable {tA tB':TT} {rest:List Expr}
def tAnd (t u:TT):TT:=fun σ H Q=>t σ H fun c H1=>if c=true then u σ H1 Q else Q false H1
def tOr (t u:TT):TT:=fun σ H Q=>t σ H fun c H1=>if c=true then Q true H1 else u σ H1 Q
def tNot (t:TT):TT:=fun σ H Q=>t σ H fun c H1=>Q (!c) H1
theorem zji (ha:PT X a tA):PW X (.BoolOp .And [a] pos) tA:=by
 intro wh pins s σ H Q I h
 refine isTrue_and (thn (ha pins s σ H Q I h) fun c s1 e=>?_)
 cases c with
 | true=>exact isTrue_and_nil e
 | false=>exact e
theorem zml (ha:PT X a tA):PW X (.BoolOp .Or [a] pos) tA:=by
 intro wh pins s σ H Q I h
 refine isTrue_or (thn (ha pins s σ H Q I h) fun c s1 e=>?_)
 cases c with
 | false=>exact isTrue_or_nil e
 | true=>exact e
theorem zlc (ha:PT X a tA) (hb:PW X (.BoolOp .And (b :: rest) pos) tB'):PW X (.BoolOp .And (a :: b :: rest) pos) (tAnd tA tB'):=by
 intro wh pins s σ H Q I h
 refine isTrue_and (thn (ha pins s σ H _ I h) fun c s1 ⟨H1,I1,q1⟩=>?_)
 cases c with
 | true=>exact hb wh pins s1 σ H1 Q I1 q1
 | false=>exact ⟨H1,I1,q1⟩
theorem pw_or (ha:PT X a tA) (hb:PW X (.BoolOp .Or (b :: rest) pos) tB'):PW X (.BoolOp .Or (a :: b :: rest) pos) (tOr tA tB'):=by
 intro wh pins s σ H Q I h
 refine isTrue_or (thn (ha pins s σ H _ I h) fun c s1 ⟨H1,I1,q1⟩=>?_)
 cases c with
 | true=>exact ⟨H1,I1,q1⟩
 | false=>exact hb wh pins s1 σ H1 Q I1 q1
theorem zir (ha:PT X a tA):PT X (.UnaryOp .Not a pos) (tNot tA):=by
 intro pins s σ H Q I h
 exact isTrue_not (ha pins s σ H (fun c H1=>Q (!c) H1) I h)
def tAndV (ta tb:TE):TE:=fun σ H Q=>ta σ H fun x H1=>∃ c,x = .bl c/\if c=true then tb σ H1 Q else Q (.bl false) H1
def tOrV (ta tb:TE):TE:=fun σ H Q=>ta σ H fun x H1=>∃ c,x = .bl c/\if c=true then Q (.bl true) H1 else tb σ H1 Q
def tNotV (ta:TE):TE:=fun σ H Q=>ta σ H fun x H1=>∃ c,x = .bl c/\Q (.bl (!c)) H1
theorem zuy {op} {t:TE} (h:PE X a t):PE X (.BoolOp op [a] pos) t:=fun pins s σ H Q I hw=>BoolOp_one (h pins s σ H Q I hw)
theorem zyc (ha:PE X a ta) (hb:PE X (.BoolOp .And (b :: rest) pos) tb):PE X (.BoolOp .And (a :: b :: rest) pos) (tAndV ta tb):=by
 intro pins s σ H Q I h
 refine BoolOp_and (thn (ha pins s σ H _ I h) fun v s1 ⟨x,H1,I1,r1,q1⟩=>?_)
 obtain ⟨c,rfl,q1⟩:=q1
 cases r1
 refine wpAny_truthy_bool ?_
 cases c with
 | true=>exact hb pins s1 σ H1 Q I1 q1
 | false=>exact ⟨.bl false,H1,I1,rfl,q1⟩
theorem pe_or (ha:PE X a ta) (hb:PE X (.BoolOp .Or (b :: rest) pos) tb):PE X (.BoolOp .Or (a :: b :: rest) pos) (tOrV ta tb):=by
 intro pins s σ H Q I h
 refine BoolOp_or (thn (ha pins s σ H _ I h) fun v s1 ⟨x,H1,I1,r1,q1⟩=>?_)
 obtain ⟨c,rfl,q1⟩:=q1
 cases r1
 refine wpAny_truthy_bool ?_
 cases c with
 | false=>exact hb pins s1 σ H1 Q I1 q1
 | true=>exact ⟨.bl true,H1,I1,rfl,q1⟩
def tIf (t:TT) (ta tb:TE):TE:=fun σ H Q=>t σ H fun c H1=>if c=true then ta σ H1 Q else tb σ H1 Q
theorem ztn {c:Expr} (hc:PT X c tA) (ha:PE X a ta) (hb:PE X b tb):PE X (.IfExp c a b pos) (tIf tA ta tb):=by
 intro pins s σ H Q I h
 refine wpAny_IfExp (thn (hc pins s σ H _ I h) fun d s1 ⟨H1,I1,q1⟩=>?_)
 cases d with
 | true=>exact ha pins s1 σ H1 Q I1 q1
 | false=>exact hb pins s1 σ H1 Q I1 q1
end
def SqL (K:PySem.W.Frag) (H:Hp) (a:Addr) (xs:List V):Prop :=
 Rd H a (.lst xs) \/
  ∃ (o:Obj) (its:Array Value) (n:Nat),K.lookup a=some o/\o.cls = .type "list" /\ o.dict=none/\o.data = .seq its n/\its.size<=sizeLine/\Vals xs its.toList
def SqT (K:PySem.W.Frag) (H:Hp) (a:Addr) (xs:List V):Prop :=
 Rd H a (.tup xs) \/
  ∃ (o:Obj) (its:Array Value) (n:Nat),K.lookup a=some o/\o.cls = .type "tuple" /\ o.data = .seq its n/\its.size<=sizeLine/\Vals xs its.toList
def absV:Value->Option V
 | .none=>some .non
 | .bool b=>some (.bl b)
 | .int i _=>some (.int i)
 | .str x _=>some (.str x)
 | .bytes b _=>some (.byt b)
 | .float b _=>some (.flt b)
 | .ref a=>some (.ref a)
 | .type n=>some (.ty n)
 | _=>none
theorem RelV.abs {x:V} {u:Value} (r:RelV x u):absV u=some x:=by
 cases x with
 | non=>cases r; rfl
 | bl _=>cases r; rfl
 | int _=>obtain ⟨t,rfl⟩:=r; rfl
 | str _=>obtain ⟨t,rfl⟩:=r; rfl
 | byt _=>obtain ⟨t,rfl⟩:=r; rfl
 | flt _=>obtain ⟨t,rfl⟩:=r; rfl
 | ref _=>cases r; rfl
 | ty _=>cases r; rfl
theorem RelV.inj {x y:V} {u:Value} (r:RelV x u) (q:RelV y u):x=y:=Option.some.inj (r.abs.symm.trans q.abs)
theorem Vals.inj:∀ {xs ys:List V} {us:List Value},Vals xs us->Vals ys us->xs=ys
 | _,_,_,.nil,.nil=>rfl
 | _,_,_,.cons r t,.cons r' t'=>by rw [r.inj r',Vals.inj t t']
section
variable {X:Cx} {pins:List (Addr×Obj)} {σ:St} {H:Hp} {s:Shared} {a:Addr} {xs ys:List V}
theorem SqL.of {K:PySem.W.Frag} (h:H a=some (.lst xs)):SqL K H a xs:=.inl (.inl h)
theorem SqT.of {K:PySem.W.Frag} (h:H a=some (.tup xs)):SqT K H a xs:=.inl (.inl h)
theorem Inv.list (I:Inv X pins σ H s) (h:SqL X.K H a xs):∃ its:List Value,Vals xs its/\PlainL s.heap a its.toArray/\xs.length<=sizeLine:=by
 rcases h with h | ⟨o,its,n,hk,hc,hd,hs,hz,r⟩
 ·obtain ⟨z,its,n,r,e⟩:=h.ok I.hok
  exact ⟨its,r,⟨_,n,e,rfl,rfl,rfl⟩,z⟩
 ·refine ⟨its.toList,r,⟨o,n,I.kIn a o hk,hc,hd,by simpa using hs⟩,?_⟩
  have e:=r.length
  simp only [Array.length_toList] at e
  omega
theorem Inv.tuple (I:Inv X pins σ H s) (h:SqT X.K H a xs):∃ its:List Value,Vals xs its/\IsTup s.heap a its.toArray/\xs.length<=sizeLine:=by
 rcases h with h | ⟨o,its,n,hk,hc,hs,hz,r⟩
 ·obtain ⟨z,its,r,p⟩:=h.ok I.hok
  exact ⟨its,r,p,z⟩
 ·refine ⟨its.toList,r,⟨o,I.kIn a o hk,hc,n,by simpa using hs⟩,?_⟩
  have e:=r.length
  simp only [Array.length_toList] at e
  omega
theorem Inv.list_inj (I:Inv X pins σ H s) (h:SqL X.K H a xs) (h':SqL X.K H a ys):xs=ys:=by
 obtain ⟨its,r,⟨o,n,e,_,_,d⟩,_⟩:=I.list h
 obtain ⟨its',r',⟨o',n',e',_,_,d'⟩,_⟩:=I.list h'
 rw [e] at e'; cases e'
 rw [d] at d'
 injection d' with d1 _
 have:its=its':=by simpa using congrArg Array.toList d1
 subst this
 exact r.inj r'
end
abbrev Cx.wish (X:Cx) (E:Value->Shared->Prop):Cx:={ X with xe:=E }
abbrev Cx.nox (X:Cx):Cx:=X.wish fun _ _=>False
theorem Cx.Ok.wish {X:Cx} (ok:X.Ok) (E:Value->Shared->Prop):(X.wish E).Ok :=
 ⟨ok.mod,ok.kind,ok.glob,ok.blt,ok.above,ok.inj,ok.has,ok.cab,ok.hd,ok.frames,ok.stk,ok.exf,ok.bs,ok.bsz,ok.noex,ok.exfs,ok.funs,ok.frf⟩
theorem Cx.Ok.unwish {X:Cx} {E:Value->Shared->Prop} (ok:(X.wish E).Ok):X.Ok :=
 ⟨ok.mod,ok.kind,ok.glob,ok.blt,ok.above,ok.inj,ok.has,ok.cab,ok.hd,ok.frames,ok.stk,ok.exf,ok.bs,ok.bsz,ok.noex,ok.exfs,ok.funs,ok.frf⟩
section
variable {X:Cx} {pins:List (Addr×Obj)} {σ:St} {H:Hp} {s:Shared} {E:Value->Shared->Prop}
theorem Inv.wish (I:Inv X pins σ H s) (E:Value->Shared->Prop):Inv (X.wish E) pins σ H s:=⟨I.ok.wish E,I.os,I.bare,I.base,I.loc,I.cell,I.free,I.freeC,I.pin,I.hok,I.len⟩
theorem Inv.unwish (I:Inv (X.wish E) pins σ H s):Inv X pins σ H s:=⟨I.ok.unwish,I.os,I.bare,I.base,I.loc,I.cell,I.free,I.freeC,I.pin,I.hok,I.len⟩
theorem SP.unwish {D:Ends} {f:Flow} {s':Shared} (h:SP (X.wish E) pins D f s'):SP X pins D f s':=by
 cases f with
 | next=>obtain ⟨σ',H',I,q⟩:=h; exact ⟨σ',H',I.unwish,q⟩
 | brk=>obtain ⟨σ',H',I,q⟩:=h; exact ⟨σ',H',I.unwish,q⟩
 | cont=>obtain ⟨σ',H',I,q⟩:=h; exact ⟨σ',H',I.unwish,q⟩
 | ret u=>obtain ⟨v,σ',H',I,r,q⟩:=h; exact ⟨v,σ',H',I.unwish,r,q⟩
theorem PSs.nox {st:List Stmt} {t:TS} (h:PSs X.nox st t):PSs X st t:=fun pins s σ H D I hw =>
 wpAny_mono (h pins s σ H D (I.wish _) hw) (fun _ _ q=>q.unwish) fun _ _ z=>False.elim z
end
section
variable {X:Cx} {st:Stmt} {rest:List Stmt} {t u:TS} {e:Expr} {te:TE} {pos:Pos}
def tNext:TS:=fun D σ H=>D.nx σ H
def tSeq (t u:TS):TS:=fun D σ H=>t { D with nx:=u D } σ H
theorem zbb:PSs X [] tNext:=fun _ _ σ H _ I h=>wpAny_execs_nil ⟨σ,H,I,h⟩
theorem zad (h1:PS X st t) (h2:PSs X rest u):PSs X (st :: rest) (tSeq t u):=by
 intro pins s σ H D I h
 refine wpAny_execs_cons (thn (h1 pins s σ H { D with nx:=u D } I h) fun f s1 q=>?_)
 cases f with
 | next =>
  obtain ⟨σ',H',I',q⟩:=q
  exact h2 pins s1 σ' H' D I' q
 | ret v=>exact q
 | brk=>exact q
 | cont=>exact q
theorem zah (h1:PS X st t):PSs X [st] t:=by
 intro pins s σ H D I h
 refine wpAny_execs_cons (thn (h1 pins s σ H D I h) fun f s1 q=>?_)
 cases f with
 | next=>exact wpAny_execs_nil q
 | ret v=>exact q
 | brk=>exact q
 | cont=>exact q
theorem Inv.quiet {pins:List (Addr×Obj)} {σ:St} {H:Hp} {s:Shared} (I:Inv X pins σ H s):interactive X.env=false:=by simp [interactive,I.ok.kind]
def tDrop (te:TE):TS:=fun D σ H=>te σ H fun _ H1=>D.nx σ H1
theorem zay (he:PE X e te) (hs:swapsWith e none pos.line X.env=pure false:=by rfl):PS X (.Expr e pos) (tDrop te):=by
 intro pins s σ H D I h
 exact wpAny_Expr_any (thn (he pins s σ H _ I h) fun v s1 ⟨x,H1,I1,r1,q1⟩=>⟨σ,H1,I1,q1⟩) I.quiet hs
def tRet (te:TE):TS:=fun D σ H=>te σ H D.rt
theorem zbd (he:PE X e te):PS X (.Return (some e) pos) (tRet te):=by
 intro pins s σ H D I h
 exact wpAny_Return_some (thn (he pins s σ H _ I h) fun v s1 ⟨x,H1,I1,r1,q1⟩=>⟨x,σ,H1,I1,r1,q1⟩)
def tRetN:TS:=fun D _ H=>D.rt .non H
def tIfS (c:TT) (t u:TS):TS:=fun D σ H=>c σ H fun b H1=>if b=true then t D σ H1 else u D σ H1
theorem ps_if {c:Expr} {a b:List Stmt} {tc:TT} (hc:PT X c tc) (ha:PSs X a t) (hb:PSs X b u):PS X (.If c a b pos) (tIfS tc t u):=by
 intro pins s σ H D I h
 refine wpAny_If (thn (hc pins s σ H _ I h) fun d s1 ⟨H1,I1,q1⟩=>?_)
 cases d with
 | true=>exact ha pins s1 σ H1 D I1 q1
 | false=>exact hb pins s1 σ H1 D I1 q1
def zyd:TS:=fun _ _ _=>False
theorem zox:PS X st zyd:=fun _ _ _ _ _ _ h=>h.elim
end
abbrev TG:=V->St->Hp->(St->Hp->Prop)->Prop
abbrev TGs:=List V->St->Hp->(St->Hp->Prop)->Prop
def PG (X:Cx) (target:Expr) (t:TG):Prop :=
 ∀ (pins:List (Addr×Obj)) (s:Shared) (σ:St) (H:Hp) (v:V) (u:Value) (Q:St->Hp->Prop),Inv X pins σ H s->RelV v u->t v σ H Q ->
  wpAny (model X.prog X.w) X.A (assign target X.env u) (fun _ s'=>∃ σ' H',Inv X pins σ' H' s'/\Q σ' H') X.xe s
def PGs (X:Cx) (ts:List Expr) (t:TGs):Prop :=
 ∀ (pins:List (Addr×Obj)) (s:Shared) (σ:St) (H:Hp) (vs:List V) (us:List Value) (Q:St->Hp->Prop),Inv X pins σ H s->Vals vs us->t vs σ H Q ->
  wpAny (model X.prog X.w) X.A (assignInOrder ((assignEach ts X.env).map (·.2)) us) (fun _ s'=>∃ σ' H',Inv X pins σ' H' s'/\Q σ' H') X.xe s
section
variable {X:Cx} {pos:Pos}
def gName (i:Nat):TG:=fun v σ H Q=>Q (σ.set i (some v)) H
theorem zbm {i:Nat} {x:Str} (hN:X.N.Nodup) (hi:X.N[i]? = some x) (hx:Loc X.env.scope x) (hf:X.fn x=true\/X.env.scope.names.lookup x=some .local:=by first | exact .inl rfl | exact .inr rfl | assumption):PG X (.Name x pos) (gName i):=by
 intro pins s σ H v u Q I r h
 exact wpAny_assign_Name (zov I hN hi hx r (fun s' I'=>⟨_,H,I',h⟩) hf)
def gNil:TGs:=fun vs σ H Q=>vs = []/\Q σ H
def gCons (t:TG) (u:TGs):TGs:=fun vs σ H Q=>∃ v r,vs=v :: r/\t v σ H fun σ' H'=>u r σ' H' Q
theorem zhy:PGs X [] gNil:=by
 intro pins s σ H vs us Q I r h
 obtain ⟨e,h⟩:=h
 subst e
 cases r
 exact assignInOrder_nil ⟨σ,H,I,h⟩
theorem zde {e:Expr} {es:List Expr} {t:TG} {u:TGs} (h1:PG X e t) (h2:PGs X es u)
    (hs:(assignEach (e :: es) X.env).map (·.2)=assign e X.env :: (assignEach es X.env).map (·.2):=by rfl):PGs X (e :: es) (gCons t u):=by
  intro pins s σ H vs us Q I r h
  obtain ⟨v,vr,e1,h⟩:=h
  subst e1
  cases r with
  | cons r rr =>
    rw [hs]
    refine assignInOrder_cons (thn (h1 pins s σ H _ _ _ I r h) fun _ s1 ⟨σ1,H1,I1,q1⟩=>?_)
    exact h2 pins s1 σ1 H1 _ _ Q I1 rr q1
def gTup (K:PySem.W.Frag) (n:Nat) (t:TGs):TG:=fun v σ H Q=>∃ a xs,v = .ref a/\SqT K H a xs/\xs.length=n/\t xs σ H Q
theorem zye {es:List Expr} {k:Nat} {t:TGs} {n:Nat} (hc:X.calm=true) (h:PGs X es t)
    (hn:(assignEach es X.env).length=n:=by rfl) (hst:(assignEach es X.env).findIdx? (·.1)=none:=by rfl):PG X (.Tuple es k pos) (gTup X.K n t):=by
  intro pins s σ H v u Q I r hw
  obtain ⟨a,xs,e1,hq,hl,hw⟩:=hw
  subst e1
  cases r
  obtain ⟨its,rv,ht,hz⟩:=I.tuple hq
  refine assign_Tuple_tuple (I.ok.hd hc) ht (by simp [hn,<- hl,rv.length]) hst fun h' hx=>?_
  have I1:Inv X pins σ H { s with heap:=h' }:=I.kept (t':=s.toks) fun b o e=>hx b o (Nat.ne_of_lt (Heap.lt_size e)) e
  exact h pins _ σ H xs _ Q I1 (by simpa using rv) hw
def tAsg (te:TE) (g:TG):TS:=fun D σ H=>te σ H fun x H1=>g x σ H1 D.nx
theorem zyf {tg e:Expr} {te:TE} {g:TG} (he:PE X e te) (hg:PG X tg g) (hs:swapsWithSole [tg] e pos.line X.env=pure false:=by rfl) (hw:swappedStores [tg] e X.env=pure none:=by rfl)
    (h1:(assignEach [tg] X.env).map (·.2) = [assign tg X.env]:=by rfl):PS X (.Assign [tg] e pos) (tAsg te g):=by
  intro pins s σ H D I h
  refine wpAny_Assign_stores (thn (he pins s σ H _ I h) fun v s1 ⟨x,H1,I1,r1,q1⟩=>?_) hs hw
  rw [h1]
  exact thn (hg pins s1 σ H1 x v _ I1 r1 q1) fun _ s2 q=>q
theorem zbc {i:Nat} {x:Str} {e:Expr} {te:TE} {pos':Pos} (hN:X.N.Nodup) (hi:X.N[i]? = some x) (hx:Loc X.env.scope x) (he:PE X e te) (hs:swapsWith e (some (.Name x pos')) pos.line X.env=pure false:=by rfl) (hf:X.fn x=true\/X.env.scope.names.lookup x=some .local:=by first | exact .inl rfl | exact .inr rfl | assumption) :
    PS X (.Assign [.Name x pos'] e pos) (tAsg te (gName i)):=by
  intro pins s σ H D I h
  refine wpAny_Assign_Name (thn (he pins s σ H _ I h) fun v s1 ⟨y,H1,I1,r1,q1⟩=>?_) hs
  exact zov I1 hN hi hx r1 (fun s2 I2=>⟨_,H1,I2,q1⟩) hf
def tPar (i j:Nat) (ta:TA):TS:=fun D σ H=>ta σ H fun vs H1=>∃ v w,vs = [v,w]/\D.nx ((σ.set i (some v)).set j (some w)) H1
end
section
variable {X:Cx} {pos:Pos}
def zqy (c:TT) (tb:TS):TS:=fun D σ H=>∃ W:Nat->St->Hp->Prop,(∃ m,W m σ H)/\∀ m σ H,W m σ H ->
 c σ H fun b H1=>if b=true then ∃ N:St->Hp->Prop,(∀ σ' H',N σ' H'->∃ m',m' < m/\W m' σ' H')/\tb { D with nx:=N,ct:=N,bk:=D.nx } σ H1 else D.nx σ H1
theorem zjb {c:Expr} {body:List Stmt} {tc:TT} {tb:TS} (hp:PassesOwn (model X.prog X.w) X.A X.env X.xe) (hc:PT X c tc) (hb:PSs X body tb):PS X (.While c body [] pos) (zqy tc tb):=by
 intro pins s σ H D I h
 obtain ⟨W,⟨m0,w0⟩,turn⟩:=h
 refine wpAny_While (codeAny_whileLoop (fun n s'=>∃ σ' H',Inv X pins σ' H' s'/\W n σ' H') ?_ m0 ⟨σ,H,I,w0⟩)
 rintro n s1 ⟨σ1,H1,I1,w1⟩
 refine wpAny_passesOwn hp (thn (hc pins s1 σ1 H1 _ I1 (turn n σ1 H1 w1)) fun b s2 ⟨H2,I2,q2⟩=>?_)
 cases b with
 | true =>
  obtain ⟨N,hN,q2⟩:=q2
  rw [if_pos rfl]
  refine wpAny_passesOwn hp (thn (hb pins s2 σ1 H2 _ I2 q2) fun f s3 q3=>?_)
  cases f with
  | next =>
   obtain ⟨σ3,H3,I3,n3⟩:=q3
   obtain ⟨m',hm,w3⟩:=hN σ3 H3 n3
   exact ⟨m',hm,σ3,H3,I3,w3⟩
  | cont =>
   obtain ⟨σ3,H3,I3,n3⟩:=q3
   obtain ⟨m',hm,w3⟩:=hN σ3 H3 n3
   exact ⟨m',hm,σ3,H3,I3,w3⟩
  | brk=>exact q3
  | ret v=>exact q3
 | false =>
  rw [if_neg Bool.false_ne_true]
  exact wpAny_execs_nil ⟨σ1,H2,I2,q2⟩
end
structure It where
 go:Nat->Hp->Prop
 yld:Nat->Hp->V->Hp->Prop
 stop:Nat->Hp->Prop
def FpOk (X:Cx) (pins:List (Addr×Obj)) (H:Hp) (b:Addr):Prop :=
 H b=none/\b≠X.env.locals/\b ∉ X.fs/\(b∈X.ex\/X.s₀.heap.objs.size<=b)/\(∀ x c,X.env.cells.lookup x=some c->c≠b)/\∀ p∈X.pn++pins,p.1≠b
theorem Inv.fpOk {X:Cx} {pins:List (Addr×Obj)} {σ:St} {H H':Hp} {s:Shared} {b:Addr} (I:Inv X pins σ H s) (hb:s.heap.objs.size<=b) (hn:H' b=none):FpOk X pins H' b:=by
 refine ⟨hn,Nat.ne_of_gt (Nat.lt_of_lt_of_le I.lt hb),I.nofs hb,.inr (Nat.le_trans I.sz hb),fun x c e z=>?_,fun p hp z=>?_⟩
 ·obtain ⟨v,q⟩:=I.cell x c e
  exact absurd (Nat.lt_of_lt_of_le q.lt (by rw [z]; exact hb)) (Nat.lt_irrefl _)
 ·exact absurd (Nat.lt_of_lt_of_le (Heap.lt_size (I.pin p hp).1) (by rw [z]; exact hb)) (Nat.lt_irrefl _)
structure Turn (P:Program) (w:World) (K:PySem.W.Frag) (tg:Expr) (J:It) (fp:List Addr) (it:Addr) (tn:Nat->Heap->Prop):Prop where
 mem:it∈fp
 obj:∀ i h,tn i h->∀ b∈fp,∃ o,h.get? b=some o/\∀ v,o.data≠.cell v
 keep:∀ i h h',tn i h->(∀ b∈fp,∀ o,h.get? b=some o->h'.get? b=some o)->tn i h'
 item:∀ (X:Cx),X.prog=P->X.w=w->X.K=K->X.calm=true->∀ (i:Nat) (pins:List (Addr×Obj)) (s:Shared) (σ:St) (H:Hp) (E:Value->Shared->Prop),Inv X pins σ H s->(∀ b∈fp,FpOk X pins H b)->tn i s.heap->J.go i H ->
  wpAny (model P w) X.A (pyNext (.ref it)) (fun r s1=>∃ u,r=some u /\
   wpAny (model P w) X.A (letOwnedTupleGo tg (.ref it) u) (fun _ s2=>∃ x H',Inv X pins σ H' s2/\RelV x u/\J.yld i H x H'/\tn (i+1) s2.heap/\∀ b∈fp,H' b=none) E s1) E s
 done:∀ (X:Cx),X.prog=P->X.w=w->X.K=K->X.calm=true->∀ (i:Nat) (pins:List (Addr×Obj)) (s:Shared) (σ:St) (H:Hp) (E:Value->Shared->Prop),Inv X pins σ H s->(∀ b∈fp,FpOk X pins H b)->tn i s.heap->J.stop i H ->
  wpAny (model P w) X.A (pyNext (.ref it)) (fun r s1=>r=none/\Inv X pins σ H s1) E s
 self:∀ (A:Around) (i:Nat) (s:Shared) (Q:Value->Shared->Prop) (E:Value->Shared->Prop),tn i s.heap->Q (.ref it) s->wpAny (model P w) A (pyIter (.ref it)) Q E s
abbrev TI:=St->Hp->(It->Hp->Prop)->Prop
def PIE (X:Cx) (pins:List (Addr×Obj)) (σ:St) (tg:Expr) (R:It->Hp->Prop) (itv:Value) (s2:Shared):Prop :=
 ∃ (it:Addr) (fp:List Addr) (tn:Nat->Heap->Prop) (J:It) (H':Hp),itv = .ref it/\Inv X pins σ H' s2/\Turn X.prog X.w X.K tg J fp it tn/\tn 0 s2.heap/\(∀ b∈fp,FpOk X pins H' b)/\R J H'
def PI (X:Cx) (tg iter:Expr) (wi:TI):Prop :=
 ∀ (pins:List (Addr×Obj)) (s:Shared) (σ:St) (H:Hp) (R:It->Hp->Prop),Inv X pins σ H s->wi σ H R ->
  wpAny (model X.prog X.w) X.A (eval iter X.env) (fun v s1=>wpAny (model X.prog X.w) X.A (pyIter v) (PIE X pins σ tg R) X.xe s1) X.xe s
theorem go_of {M:Model} {A:Around} {E:Value->Shared->Prop} {s:Shared} {tg:Expr} {it:Addr} {u:Value} {o:Obj} {n:String} {vs:Array Value} {Q:Unit->Shared->Prop} (ho:s.heap.get? it=some o) (hc:o.cls = .type n) (hd:o.data = .fields vs)
    (hn:["enumerate", "zip", "dict_itemiterator", "dict_reverseitemiterator", "odict_iterator", "itertools.zip_longest", "itertools.pairwise"].contains n=false) (hQ:Q () s):wpAny M A (letOwnedTupleGo tg (.ref it) u) Q E s:=by
  unfold letOwnedTupleGo
  cases tg <;> first
    | exact wpAny_pure hQ
    | (cases u <;> first
        | exact wpAny_pure hQ
        | (refine wpAny_bind (wpAny_load ho ?_)
           rw [hc,hd]
           show wpAny M A (if (["enumerate", "zip", "dict_itemiterator", "dict_reverseitemiterator", "odict_iterator", "itertools.zip_longest", "itertools.pairwise"].contains n && vs[0]? == some (rawInt _))=true then _ else _) Q E s
           rw [if_neg (by intro h; rw [hn,Bool.false_and] at h; cases h)]
           exact wpAny_pure hQ))
def Itl (K:PySem.W.Frag) (a:Addr):It :=
 ⟨fun i H=>∃ xs x,SqL K H a xs/\xs[i]? = some x,fun i H x H'=>H'=H/\∀ xs,SqL K H a xs->xs[i]? = some x,fun i H=>∃ xs,SqL K H a xs/\xs.length<=i⟩
def Itt (K:PySem.W.Frag) (a:Addr):It :=
 ⟨fun i H=>∃ xs x,SqT K H a xs/\xs[i]? = some x,fun i H x H'=>H'=H/\∀ xs,SqT K H a xs->xs[i]? = some x,fun i H=>∃ xs,SqT K H a xs/\xs.length<=i⟩
def Itr (lo:Int) (n:Nat):It:=⟨fun i _=>i<n,fun i H x H'=>H'=H/\x = .int (lo+i),fun i _=>n<=i⟩
theorem zqz {P:Program} {w:World} {K:PySem.W.Frag} {tg:Expr} (a it:Addr):Turn P w K tg (Itl K a) [it] it (fun i h=>h.IsListIter it a i) where
 mem:=by simp
 obj:=fun i h st b hb=>by
  have e:b=it:=by simpa using hb
  subst e
  obtain ⟨o,e,c,d⟩:=st
  exact ⟨o,e,fun v z=>by rw [d] at z; cases z⟩
 keep:=fun i h h' st k=>st.at fun o e=>k it (by simp) o e
 item:=by
  intro X hP hw hK hc i pins s σ H E I hf st hg
  subst hP hw hK
  obtain ⟨xs,x,hq,hx⟩:=hg
  obtain ⟨its,rv,p,hz⟩:=I.list hq
  obtain ⟨u,hu,ru⟩:=rv.get hx
  obtain ⟨f0,f1,f2,f3,f4,f5⟩:=hf it (by simp)
  refine wpAny_pyNext_list_item st p.isList (x:=u) (by simpa using hu) fun h' st' sb=>?_
  have I1:Inv X pins σ H { s with heap:=h' }:=I.turned (t':=s.toks) (fun b o hb e=>(sb.2 b hb).trans e) f0 f1 f3 f4 f5
  obtain ⟨o,e,c,d⟩:=id st'
  exact ⟨u,rfl,go_of (s:={ s with heap:=h' }) e c d (by decide) ⟨x,H,I1,ru,⟨rfl,fun ys hy=>by rw [I.list_inj hy hq]; exact hx⟩,st',fun b hb=>(hf b hb).1⟩⟩
 done:=by
  intro X hP hw hK hc i pins s σ H E I hf st hg
  subst hP hw hK
  obtain ⟨xs,hq,hx⟩:=hg
  obtain ⟨its,rv,p,hz⟩:=I.list hq
  obtain ⟨f0,f1,f2,f3,f4,f5⟩:=hf it (by simp)
  have hl:=rv.length
  exact wpAny_pyNext_list_end (I.ok.hd hc) st p.isList (by simp; omega) fun h' eb=>⟨rfl,I.turned (t':=s.toks) (fun b o hb e=>eb b o hb e) f0 f1 f3 f4 f5⟩
 self:=fun _ _ _ _ _ st h=>wpAny_pyIter_listiter st h
section
variable {X:Cx} {tg:Expr}
def iList (K:PySem.W.Frag) (tl:TE):TI:=fun σ H R=>tl σ H fun x H1=>∃ a,x = .ref a/\(∃ xs,SqL K H1 a xs)/\R (Itl K a) H1
def iTup (K:PySem.W.Frag) (tl:TE):TI:=fun σ H R=>tl σ H fun x H1=>∃ a,x = .ref a/\(∃ xs,SqT K H1 a xs)/\R (Itt K a) H1
theorem zvu {l:Expr} {tl:TE} (hl:PE X l tl):PI X tg l (iList X.K tl):=by
 intro pins s σ H R I h
 refine thn (hl pins s σ H _ I h) fun v s1 ⟨x,H1,I1,r1,q1⟩=>?_
 obtain ⟨a,e,⟨xs,hq⟩,q⟩:=q1
 subst e
 cases r1
 obtain ⟨its,rv,p,hz⟩:=I1.list hq
 refine wpAny_pyIter_list p.isList ?_
 refine ⟨s1.heap.objs.size,[s1.heap.objs.size],_,_,H1,rfl,I1.kept (t':=s1.toks) fun b o e=>Heap.get?_push_of_some _ e,zqz a _,⟨_,Heap.get?_push_size _ rfl,rfl,rfl⟩,fun b hb=>?_,q⟩
 have e:b=s1.heap.objs.size:=by simpa using hb
 subst e
 exact I1.fpOk (Nat.le_refl _) (I1.hok.fresh (Nat.le_refl _))
def iRng1 (ta:TA):TI:=fun σ H R=>ta σ H fun vs H1=>∃ j:Int,vs = [.int j]/\-(2 ^ 62)<=j/\j<2 ^ 62/\R (Itr 0 j.toNat) H1
def iRng2 (ta:TA):TI:=fun σ H R=>ta σ H fun vs H1=>∃ i j:Int,vs = [.int i,.int j]/\(-(2 ^ 62)<=i/\i<2 ^ 62/\-(2 ^ 62)<=j/\j<2 ^ 62)/\R (Itr i (j-i).toNat) H1
def tFor (wi:TI) (g:TG) (tb:TS):TS:=fun D σ H=>wi σ H fun J H1=>∃ W:Nat->Nat->St->Hp->Prop,(∃ m,W 0 m σ H1)/\∀ i m σ H,W i m σ H ->
 (J.stop i H/\D.nx σ H)\/(J.go i H/\∃ N:St->Hp->Prop,(∀ σ' H',N σ' H'->∃ m',m' < m/\W (i+1) m' σ' H')/\∀ x H',J.yld i H x H'->g x σ H' fun σ2 H2=>tb { D with nx:=N,ct:=N,bk:=D.nx } σ2 H2)
def zld (fp:List Addr) (h:Heap):List (Addr×Obj):=fp.filterMap fun b=>(h.get? b).map fun o=>(b,o)
theorem zer {fp:List Addr} {h:Heap} {b:Addr} {o:Obj} (hb:b∈fp) (e:h.get? b=some o):(b,o)∈zld fp h:=List.mem_filterMap.mpr ⟨b,hb,by rw [e]; rfl⟩
theorem zra {fp:List Addr} {h:Heap} {p:Addr×Obj} (hp:p∈zld fp h):p.1∈fp/\h.get? p.1=some p.2:=by
 obtain ⟨b,hb,e⟩:=List.mem_filterMap.mp hp
 cases q:h.get? b with
 | none=>rw [q] at e; cases e
 | some o =>
  rw [q] at e
  have e':(b,o)=p:=Option.some.inj e
  subst e'
  exact ⟨hb,q⟩
theorem Inv.pinned {pins:List (Addr×Obj)} {σ:St} {H:Hp} {s:Shared} {fp:List Addr} (I:Inv X pins σ H s) (hf:∀ b∈fp,FpOk X pins H b) (ho:∀ b∈fp,∃ o,s.heap.get? b=some o/\∀ v,o.data≠.cell v):Inv X (pins++zld fp s.heap) σ H s :=
 I.pins_of fun p hp=>(List.mem_append.mp hp).elim (fun z=>I.pin p (List.mem_append_right _ z)) fun z=>by
  obtain ⟨hb,e⟩:=zra z
  obtain ⟨f0,f1,f2,_⟩:=hf p.1 hb
  obtain ⟨o,e',d⟩:=ho p.1 hb
  rw [e] at e'; cases e'
  exact ⟨e,f0,f1,f2,d⟩
theorem Inv.unpinned {pins pl:List (Addr×Obj)} {σ:St} {H:Hp} {s:Shared} (I:Inv X (pins++pl) σ H s):Inv X pins σ H s:=I.pins_of fun p hp=>I.pin p (List.mem_append_right _ (List.mem_append_left _ hp))
theorem zis {iter:Expr} {body:List Stmt} {wi:TI} {g:TG} {tb:TS} {pos:Pos} (hp:PassesOwn (model X.prog X.w) X.A X.env X.xe) (hc:X.calm=true) (hi:PI X tg iter wi) (hg:PG X tg g) (hb:PSs X body tb)
    (hs:∀ x,foldedSetIterable iter X.env x=pure x:=by intro _; rfl):PS X (.For tg iter body [] pos) (tFor wi g tb):=by
  intro pins s σ H D I h
  refine wpAny_For (thn (hi pins s σ H _ I h) fun v s1 h1=>thn h1 fun itv s2 h2=>?_) hs
  obtain ⟨it,fp,tn,J,H2,e,I2,T,st2,f2,W,⟨m0,w0⟩,turn⟩:=h2
  subst e
  have stat:∀ {H':Hp},(∀ b∈fp,H' b=none)->∀ b∈fp,FpOk X pins H' b:=fun hn b hb=>⟨hn b hb,(f2 b hb).2⟩
  refine codeAny_forLoop_any (fun n s'=>∃ i σ' H',Inv X pins σ' H' s'/\tn i s'.heap/\(∀ b∈fp,H' b=none)/\W i n σ' H') ?_ m0 ⟨0,σ,H2,I2,st2,fun b hb=>(f2 b hb).1,w0⟩
  rintro n s3 ⟨i,σ3,H3,I3,st3,fr3,w3⟩
  rcases turn i n σ3 H3 w3 with ⟨stop,qn⟩ | ⟨go,N,hN,step⟩
  · refine wpAny_passesOwn hp (thn (T.done X rfl rfl rfl hc i pins s3 σ3 H3 X.xe I3 (stat fr3) st3 stop) fun r s4 ⟨hr,I4⟩=>?_)
    subst hr
    exact wpAny_execs_nil ⟨σ3,H3,I4,qn⟩
  · refine wpAny_passesOwn hp (thn (T.item X rfl rfl rfl hc i pins s3 σ3 H3 X.xe I3 (stat fr3) st3 go) fun r s4 ⟨u,hr,h4⟩=>?_)
    subst hr
    refine wpAny_passesOwn hp (thn h4 fun _ s5 ⟨x,H5,I5,r5,y5,st5,fr5⟩=>?_)
    have I5':=I5.pinned (stat fr5) (T.obj _ _ st5)
    refine wpAny_passesOwn hp (thn (hg _ s5 σ3 H5 x u _ I5' r5 (step x H5 y5)) fun _ s6 ⟨σ6,H6,I6,q6⟩=>?_)
    refine wpAny_passesOwn hp (thn (hb _ s6 σ6 H6 _ I6 q6) fun f s7 q7=>?_)
    have again:∀ {σ7:St} {H7:Hp},Inv X (pins++zld fp s5.heap) σ7 H7 s7->N σ7 H7->∃ m,m<n/\∃ i σ' H',Inv X pins σ' H' s7/\tn i s7.heap/\(∀ b∈fp,H' b=none)/\W i m σ' H':=fun {σ7 H7} I7 n7=>by
      obtain ⟨m',hm,w7⟩:=hN σ7 H7 n7
      refine ⟨m',hm,i+1,σ7,H7,I7.unpinned,T.keep _ _ _ st5 fun b hb o e=>(I7.pin (b,o) (List.mem_append_right _ (List.mem_append_right _ (zer hb e)))).1,fun b hb=>?_,w7⟩
      obtain ⟨o,e,d⟩:=T.obj _ _ st5 b hb
      exact (I7.pin (b,o) (List.mem_append_right _ (List.mem_append_right _ (zer hb e)))).2.1
    cases f with
    | next=>obtain ⟨σ7,H7,I7,n7⟩:=q7; exact again I7 n7
    | cont=>obtain ⟨σ7,H7,I7,n7⟩:=q7; exact again I7 n7
    | brk=>obtain ⟨σ7,H7,I7,q7⟩:=q7; exact ⟨σ7,H7,I7.unpinned,q7⟩
    | ret v=>obtain ⟨x7,σ7,H7,I7,r7,q7⟩:=q7; exact ⟨x7,σ7,H7,I7.unpinned,r7,q7⟩
end
theorem zfc {K:PySem.W.Frag} {a:Addr} {xs:List V} {g:TG} {tb:TS} {D:Ends} {σ:St} {H:Hp} (Pv:Nat->St->Hp->Prop) (h0:Pv 0 σ H) (hl:∀ i σ H,i<=xs.length->Pv i σ H->SqL K H a xs)
    (hs:∀ i x σ H,xs[i]? = some x->Pv i σ H->g x σ H fun σ2 H2=>tb { D with nx:=Pv (i+1),ct:=Pv (i+1),bk:=D.nx } σ2 H2) (hd:∀ σ H,Pv xs.length σ H->D.nx σ H) :
    ∃ W:Nat->Nat->St->Hp->Prop,(∃ m,W 0 m σ H)/\∀ i m σ H,W i m σ H ->
      ((Itl K a).stop i H/\D.nx σ H)\/((Itl K a).go i H/\∃ N:St->Hp->Prop,(∀ σ' H',N σ' H'->∃ m',m' < m/\W (i+1) m' σ' H')/\∀ x H',(Itl K a).yld i H x H'->g x σ H' fun σ2 H2=>tb { D with nx:=N,ct:=N,bk:=D.nx } σ2 H2):=by
  refine ⟨fun i m σ H=>m=xs.length-i/\i<=xs.length/\Pv i σ H,⟨xs.length,by simp,Nat.zero_le _,h0⟩,?_⟩
  rintro i m σ H ⟨rfl,hi,p⟩
  have q:=hl i σ H hi p
  by_cases hlt:i<xs.length
  · refine .inr ⟨⟨xs,xs[i],q,by simp [hlt]⟩,Pv (i+1),fun σ' H' p'=>⟨xs.length-(i+1),by omega,rfl,hlt,p'⟩,fun x H' y=>?_⟩
    obtain ⟨e,y⟩:=y
    subst e
    exact hs i x σ _ (y xs q) p
  · have e:i=xs.length:=by omega
    subst e
    exact .inl ⟨⟨xs,q,Nat.le_refl _⟩,hd σ H p⟩
abbrev R2:=V->V->Hp->VK->Prop
def OpR (X:Cx) (f:Value->Value->Sem Value) (r:R2):Prop :=
 ∀ (pins:List (Addr×Obj)) (s:Shared) (σ:St) (H:Hp) (x y:V) (v u:Value) (Q:VK),Inv X pins σ H s->RelV x v->RelV y u->r x y H Q ->
  wpAny (model X.prog X.w) X.A (f v u) (EP X pins σ Q) X.xe s
def UnR (X:Cx) (f:Value->Sem Value) (r:V->Hp->VK->Prop):Prop :=
 ∀ (pins:List (Addr×Obj)) (s:Shared) (σ:St) (H:Hp) (x:V) (v:Value) (Q:VK),Inv X pins σ H s->RelV x v->r x H Q ->
  wpAny (model X.prog X.w) X.A (f v) (EP X pins σ Q) X.xe s
def CallR (X:Cx) (f:Value) (r:List V->Hp->VK->Prop):Prop :=
 ∀ (pins:List (Addr×Obj)) (s:Shared) (σ:St) (H:Hp) (xs:List V) (us:List Value) (Q:VK),Inv X pins σ H s->Vals xs us->r xs H Q ->
  wpAny (model X.prog X.w) X.A (call f us) (EP X pins σ Q) X.xe s
def TruR (X:Cx) (r:V->Hp->(Bool->Hp->Prop)->Prop):Prop :=
 ∀ (pins:List (Addr×Obj)) (s:Shared) (σ:St) (H:Hp) (x:V) (v:Value) (Q:Bool->Hp->Prop),Inv X pins σ H s->RelV x v->r x H Q ->
  wpAny (model X.prog X.w) X.A (truthy v) (TP X pins σ Q) X.xe s
def tOp (r:R2) (ta tb:TE):TE:=fun σ H Q=>ta σ H fun x H1=>tb σ H1 fun y H2=>r x y H2 Q
def tUn (r:V->Hp->VK->Prop) (ta:TE):TE:=fun σ H Q=>ta σ H fun x H1=>r x H1 Q
def rI (C:Int->Int->Prop) (g:Int->Int->V):R2:=fun x y H Q=>∃ i j,x = .int i/\y = .int j/\C i j/\Q (g i j) H
def rI0 (g:Int->Int->V):R2:=fun x y H Q=>∃ i j,x = .int i/\y = .int j/\Q (g i j) H
def rU (g:Int->V):V->Hp->VK->Prop:=fun x H Q=>∃ i,x = .int i/\Q (g i) H
section
variable {X:Cx} {a b c:Expr} {ta tb tc:TE} {pos:Pos}
theorem binT (ha:PE X a ta) (hb:PE X b tb) {pins:List (Addr×Obj)} {s:Shared} {σ:St} {H:Hp} {R:V->V->Hp->Prop} (I:Inv X pins σ H s)
    (h:ta σ H fun x H1=>tb σ H1 fun y H2=>R x y H2) {Q:Value->Shared->Prop} {f:Value->Value->Sem Value}
    (hf:∀ v u s2 x y H2,Inv X pins σ H2 s2->RelV x v->RelV y u->R x y H2->wpAny (model X.prog X.w) X.A (f v u) Q X.xe s2) :
    wpAny (model X.prog X.w) X.A (eval a X.env) (fun v s₁=>wpAny (model X.prog X.w) X.A (eval b X.env) (fun u s₂=>wpAny (model X.prog X.w) X.A (f v u) Q X.xe s₂) X.xe s₁) X.xe s:=by
  refine thn (ha pins s σ H _ I h) fun v s1 ⟨x,H1,I1,r1,q1⟩=>?_
  refine thn (hb pins s1 σ H1 _ I1 q1) fun u s2 ⟨y,H2,I2,r2,q2⟩=>?_
  exact hf v u s2 x y H2 I2 r1 r2 q2
theorem pe_op {op:Operator} {r:R2} (ho:OpR X (binaryOp op) r) (ha:PE X a ta) (hb:PE X b tb):PE X (.BinOp a op b pos) (tOp r ta tb):=by
 intro pins s σ H Q I h
 exact wpAny_BinOp (binT ha hb I h fun v u s2 x y H2 I2 rx ry q=>ho pins s2 σ H2 x y v u Q I2 rx ry q)
theorem pe_un {op:UnaryOp} {r:V->Hp->VK->Prop} (ho:UnR X (unaryOp op) r) (ha:PE X a ta):PE X (.UnaryOp op a pos) (tUn r ta):=by
 intro pins s σ H Q I h
 exact UnaryOp_ (thn (ha pins s σ H _ I h) fun v s1 ⟨x,H1,I1,r1,q1⟩=>ho pins s1 σ H1 x v Q I1 r1 q1)
theorem opI {f:Value->Value->Sem Value} {C:Int->Int->Prop} {g:Int->Int->Int}
    (rule:∀ (i j:Int) (t u:Tok) (s:Shared) (Q:Value->Shared->Prop) (E:Value->Shared->Prop),C i j->Q (.int (g i j) s.toks) { s with toks:=s.toks+1 }->wpAny (model X.prog X.w) X.A (f (.int i t) (.int j u)) Q E s) :
    OpR X f (rI C fun i j=>.int (g i j)):=by
  intro pins s σ H x y v u Q I rx ry h
  obtain ⟨i,j,rfl,rfl,hc,q⟩:=h
  obtain ⟨t,rfl⟩:=rx
  obtain ⟨t',rfl⟩:=ry
  exact rule i j t t' s _ _ hc ⟨.int (g i j),H,I.tok _,⟨_,rfl⟩,q⟩
theorem opI0 {f:Value->Value->Sem Value} {g:Int->Int->Int}
    (rule:∀ (i j:Int) (t u:Tok) (s:Shared) (Q:Value->Shared->Prop) (E:Value->Shared->Prop),Q (.int (g i j) s.toks) { s with toks:=s.toks+1 }->wpAny (model X.prog X.w) X.A (f (.int i t) (.int j u)) Q E s) :
    OpR X f (rI0 fun i j=>.int (g i j)):=by
  intro pins s σ H x y v u Q I rx ry h
  obtain ⟨i,j,rfl,rfl,q⟩:=h
  obtain ⟨t,rfl⟩:=rx
  obtain ⟨t',rfl⟩:=ry
  exact rule i j t t' s _ _ ⟨.int (g i j),H,I.tok _,⟨_,rfl⟩,q⟩
theorem opB0 {f:Value->Value->Sem Value} {g:Int->Int->Bool}
    (rule:∀ (i j:Int) (t u:Tok) (s:Shared) (Q:Value->Shared->Prop) (E:Value->Shared->Prop),Q (.bool (g i j)) s->wpAny (model X.prog X.w) X.A (f (.int i t) (.int j u)) Q E s) :
    OpR X f (rI0 fun i j=>.bl (g i j)):=by
  intro pins s σ H x y v u Q I rx ry h
  obtain ⟨i,j,rfl,rfl,q⟩:=h
  obtain ⟨t,rfl⟩:=rx
  obtain ⟨t',rfl⟩:=ry
  exact rule i j t t' s _ _ ⟨.bl (g i j),H,I,rfl,q⟩
def CPow (i j:Int):Prop:=0<=j/\j<=1000000/\i.natAbs<2 ^ 64
theorem zfd:OpR X (binaryOp .Add) (rI0 fun i j=>.int (i+j)):=opI0 fun _ _ _ _ _ _ _ q=>add_int q
theorem zmm:OpR X (binaryOp .Sub) (rI0 fun i j=>.int (i-j)):=opI0 fun _ _ _ _ _ _ _ q=>sub_int q
theorem zit:OpR X (binaryOp .Mod) (rI (fun _ j=>0<j) fun i j=>.int (i % j)):=opI fun i j _ _ _ _ _ hc q=>by
 have h1:(0:Int)<j:=hc
 exact mod_int' (by omega) (by rw [Int.fmod_eq_emod_of_nonneg i (by omega)]; exact q)
theorem zuz:OpR X (binaryOp .Pow) (rI CPow fun i j=>.int (i ^ j.toNat)):=opI fun _ _ _ _ _ _ _ hc q=>pow_int_small hc.1 hc.2.1 hc.2.2 q
theorem unI {f:Value->Sem Value} {g:Int->Int}
    (rule:∀ (i:Int) (t:Tok) (s:Shared) (Q:Value->Shared->Prop) (E:Value->Shared->Prop),Q (.int (g i) s.toks) { s with toks:=s.toks+1 }->wpAny (model X.prog X.w) X.A (f (.int i t)) Q E s) :
    UnR X f (rU fun i=>.int (g i)):=by
  intro pins s σ H x v Q I rx h
  obtain ⟨i,rfl,q⟩:=h
  obtain ⟨t,rfl⟩:=rx
  exact rule i t s _ _ ⟨.int (g i),H,I.tok _,⟨_,rfl⟩,q⟩
theorem zyg:UnR X (unaryOp .USub) (rU fun i=>.int (-i)):=unI fun _ _ _ _ _ q=>neg_int q
end
def scal:V->V->Bool
 | .non,.non=>true | .non,.int _=>true | .int _,.non=>true | .non,.bl _=>true | .bl _,.non=>true | .non,.str _=>true | .str _,.non=>true
 | .int _,.int _=>true | .bl _,.bl _=>true | .str _,.str _=>true | .byt _,.byt _=>true
 | .int _,.str _=>true | .str _,.int _=>true | .bl _,.str _=>true | .str _,.bl _=>true
 | _,_=>false
def rEq:R2:=fun x y H Q=>scal x y=true/\Q (.bl (decide (x=y))) H
def rNe:R2:=fun x y H Q=>scal x y=true/\Q (.bl (!decide (x=y))) H
theorem zrb {i j:Int}:decide (V.int i=V.int j)=(i == j):=by
 rw [Bool.eq_iff_iff]
 simp
theorem zva {i j:Bool}:decide (V.bl i=V.bl j)=(i == j):=by
 rw [Bool.eq_iff_iff]
 simp
theorem zrc {i j:Str}:decide (V.str i=V.str j)=(i == j):=by
 rw [Bool.eq_iff_iff]
 simp
theorem zrd {i j:Array UInt8}:decide (V.byt i=V.byt j)=(i.toList == j.toList):=by
 rw [Bool.eq_iff_iff]
 cases i
 cases j
 simp
section
variable {X:Cx} {a b c:Expr} {ta tb tc:TE} {pos:Pos}
theorem zcf {pins:List (Addr×Obj)} {σ:St} {H:Hp} {s:Shared} {Q:VK} {k k':Bool} (I:Inv X pins σ H s) (q:Q (.bl k) H) (e:k=k'):EP X pins σ Q (.bool k') s:=by
 subst e
 exact ⟨.bl k,H,I,rfl,q⟩
theorem op_eq:OpR X (compareOp .Eq) rEq:=by
 intro pins s σ H x y v u Q I rx ry h
 obtain ⟨hs,q⟩:=h
 cases x with
 | non =>
  cases rx
  cases y with
  | non=>cases ry; exact PySem.EqNone.eq_none_none (zcf I q (by simp))
  | bl j=>cases ry; exact PySem.EqNone.eq_none_bool (zcf I q (by simp))
  | int j=>obtain ⟨t',rfl⟩:=ry; exact PySem.EqNone.eq_none_int (zcf I q (by simp))
  | str j=>obtain ⟨t',rfl⟩:=ry; exact PySem.EqNone.eq_none_str (zcf I q (by simp))
  | _=>exact absurd (show false=true from hs) Bool.false_ne_true
 | bl i =>
  cases rx
  cases y with
  | non=>cases ry; exact PySem.EqNone.eq_bool_none (zcf I q (by simp))
  | bl j=>cases ry; exact eq_bool (zcf I q zva)
  | str j=>obtain ⟨t',rfl⟩:=ry; exact PySem.EqMixed.eq_bool_str (zcf I q (by simp))
  | _=>exact absurd (show false=true from hs) Bool.false_ne_true
 | int i =>
  obtain ⟨t,rfl⟩:=rx
  cases y with
  | non=>cases ry; exact PySem.EqNone.eq_int_none (zcf I q (by simp))
  | int j=>obtain ⟨t',rfl⟩:=ry; exact eq_int (zcf I q zrb)
  | str j=>obtain ⟨t',rfl⟩:=ry; exact PySem.EqMixed.eq_int_str (zcf I q (by simp))
  | _=>exact absurd (show false=true from hs) Bool.false_ne_true
 | str i =>
  obtain ⟨t,rfl⟩:=rx
  cases y with
  | non=>cases ry; exact PySem.EqNone.eq_str_none (zcf I q (by simp))
  | bl j=>cases ry; exact PySem.EqMixed.eq_str_bool (zcf I q (by simp))
  | int j=>obtain ⟨t',rfl⟩:=ry; exact PySem.EqMixed.eq_str_int (zcf I q (by simp))
  | str j=>obtain ⟨t',rfl⟩:=ry; exact eq_str (zcf I q zrc)
  | _=>exact absurd (show false=true from hs) Bool.false_ne_true
 | byt i =>
  obtain ⟨t,rfl⟩:=rx
  cases y with
  | byt j=>obtain ⟨t',rfl⟩:=ry; exact PySem.W.eq_bytes (zcf I q zrd)
  | _=>exact absurd (show false=true from hs) Bool.false_ne_true
 | _=>cases y <;> exact absurd (show false=true from hs) Bool.false_ne_true
theorem op_ne:OpR X (compareOp .NotEq) rNe:=by
 intro pins s σ H x y v u Q I rx ry h
 obtain ⟨hs,q⟩:=h
 cases x with
 | non =>
  cases rx
  cases y with
  | non=>cases ry; exact PySem.EqNone.ne_none_none (zcf I q (by simp))
  | bl j=>cases ry; exact PySem.EqNone.ne_none_bool (zcf I q (by simp))
  | int j=>obtain ⟨t',rfl⟩:=ry; exact PySem.EqNone.ne_none_int (zcf I q (by simp))
  | str j=>obtain ⟨t',rfl⟩:=ry; exact PySem.EqNone.ne_none_str (zcf I q (by simp))
  | _=>exact absurd (show false=true from hs) Bool.false_ne_true
 | bl i =>
  cases rx
  cases y with
  | non=>cases ry; exact PySem.EqNone.ne_bool_none (zcf I q (by simp))
  | bl j=>cases ry; exact ne_bool (zcf I q (congrArg not zva))
  | str j=>obtain ⟨t',rfl⟩:=ry; exact PySem.EqMixed.ne_bool_str (zcf I q (by simp))
  | _=>exact absurd (show false=true from hs) Bool.false_ne_true
 | int i =>
  obtain ⟨t,rfl⟩:=rx
  cases y with
  | non=>cases ry; exact PySem.EqNone.ne_int_none (zcf I q (by simp))
  | int j=>obtain ⟨t',rfl⟩:=ry; exact ne_int (zcf I q (congrArg not zrb))
  | str j=>obtain ⟨t',rfl⟩:=ry; exact PySem.EqMixed.ne_int_str (zcf I q (by simp))
  | _=>exact absurd (show false=true from hs) Bool.false_ne_true
 | str i =>
  obtain ⟨t,rfl⟩:=rx
  cases y with
  | non=>cases ry; exact PySem.EqNone.ne_str_none (zcf I q (by simp))
  | bl j=>cases ry; exact PySem.EqMixed.ne_str_bool (zcf I q (by simp))
  | int j=>obtain ⟨t',rfl⟩:=ry; exact PySem.EqMixed.ne_str_int (zcf I q (by simp))
  | str j=>obtain ⟨t',rfl⟩:=ry; exact ne_str (zcf I q (congrArg not zrc))
  | _=>exact absurd (show false=true from hs) Bool.false_ne_true
 | byt i =>
  obtain ⟨t,rfl⟩:=rx
  cases y with
  | byt j=>obtain ⟨t',rfl⟩:=ry; exact PySem.W.ne_bytes (zcf I q (congrArg not zrd))
  | _=>exact absurd (show false=true from hs) Bool.false_ne_true
 | _=>cases y <;> exact absurd (show false=true from hs) Bool.false_ne_true
theorem op_lt:OpR X (compareOp .Lt) (rI0 fun i j=>.bl (decide (i<j))):=opB0 fun _ _ _ _ _ _ _ q=>lt_int q
theorem op_le:OpR X (compareOp .LtE) (rI0 fun i j=>.bl (decide (i<=j))):=opB0 fun _ _ _ _ _ _ _ q=>le_int q
theorem op_gt:OpR X (compareOp .Gt) (rI0 fun i j=>.bl (decide (j<i))):=opB0 fun _ _ _ _ _ _ _ q=>gt_int q
theorem op_ge:OpR X (compareOp .GtE) (rI0 fun i j=>.bl (decide (j<=i))):=opB0 fun _ _ _ _ _ _ _ q=>ge_int q
theorem zoy:OpR X (compareOp .Is) (fun x y H Q=>y = .non/\Q (.bl (decide (x = .non))) H):=by
 intro pins s σ H x y v u Q I rx ry h
 obtain ⟨rfl,q⟩:=h
 cases ry
 refine is_none_gen (zcf I q ?_)
 cases x <;> first
  | (cases rx; rfl)
  | (obtain ⟨t,rfl⟩:=rx; rfl)
theorem zfq:OpR X (compareOp .IsNot) (fun x y H Q=>y = .non/\Q (.bl (!decide (x = .non))) H):=by
 intro pins s σ H x y v u Q I rx ry h
 obtain ⟨rfl,q⟩:=h
 cases ry
 refine isnot_none_gen (zcf I q ?_)
 cases x <;> first
  | (cases rx; rfl)
  | (obtain ⟨t,rfl⟩:=rx; rfl)
theorem zbk (b:Expr) {op:CmpOp} (h:op≠.In:=by decide) (h2:op≠.NotIn:=by decide):behindInMarks op b=false:=by
 have e1:(op == CmpOp.In)=false:=by cases op <;> first | rfl | exact absurd rfl h
 have e2:(op == CmpOp.NotIn)=false:=by cases op <;> first | rfl | exact absurd rfl h2
 cases b <;> simp [behindInMarks,e1,e2]
theorem zgo {op:CmpOp} {r:R2} (ho:OpR X (compareOp op) r) (ha:PE X a ta) (hb:PE X b tb) (hm:behindInMarks op b=false):PE X (.Compare a [op] [b] pos) (tOp r ta tb):=by
 intro pins s σ H Q I h
 exact wpAny_Compare1 (binT ha hb I h fun v u s2 x y H2 I2 rx ry q=>ho pins s2 σ H2 x y v u Q I2 rx ry q) hm
def tTest (t:TE):TT:=fun σ H Q=>t σ H fun x H'=>∃ k,x = .bl k/\Q k H'
theorem zba {op:CmpOp} {r:R2} (ho:OpR X (compareOp op) r) (ha:PE X a ta) (hb:PE X b tb) (hm:behindInMarks op b=false):PT X (.Compare a [op] [b] pos) (tTest (tOp r ta tb)):=by
 intro pins s σ H Q I h
 refine wpAny_isTrue_Compare1 (thn (ha pins s σ H _ I h) fun v s1 ⟨x,H1,I1,r1,q1⟩=>thn (hb pins s1 σ H1 _ I1 q1) fun u s2 ⟨y,H2,I2,r2,q2⟩ =>
  thn (ho pins s2 σ H2 x y v u _ I2 r1 r2 q2) fun c s3 ⟨z,H3,I3,r3,k,e,q3⟩=>?_) hm
 subst e
 cases r3
 exact wpAny_truthy_bool ⟨H3,I3,q3⟩
def tChain (r r':R2) (ta tb tc:TE):TE:=fun σ H Q=>ta σ H fun x H1=>tb σ H1 fun y H2=>r x y H2 fun z H3=>∃ k,z = .bl k /\
 (if k=true then tc σ H3 fun w' H4=>r' y w' H4 Q else Q (.bl false) H3)
theorem zto {op op':CmpOp} {r r':R2} (ho:OpR X (compareOp op) r) (ho':OpR X (compareOp op') r') (ha:PE X a ta) (hb:PE X b tb) (hc:PE X c tc)
    (hm:lastMarks [op,op'] [b,c] = false:=by with_unfolding_all rfl):PE X (.Compare a [op,op'] [b,c] pos) (tChain r r' ta tb tc):=by
  intro pins s σ H Q I h
  refine Compare_chain (thn (ha pins s σ H _ I h) fun v s1 ⟨x,H1,I1,r1,q1⟩=>chain_link (thn (hb pins s1 σ H1 _ I1 q1) fun u s2 ⟨y,H2,I2,r2,q2⟩ =>
    thn (ho pins s2 σ H2 x y v u _ I2 r1 r2 q2) fun d s3 ⟨z,H3,I3,r3,k,e,q3⟩=>?_)) hm
  subst e
  cases r3
  refine wpAny_truthy_bool ?_
  cases k with
  | false=>exact ite_ff ⟨.bl false,H3,I3,rfl,q3⟩
  | true=>exact ite_tt (chain_last (thn (hc pins s3 σ H3 _ I3 q3) fun w' s4 ⟨z',H4,I4,r4,q4⟩=>ho' pins s4 σ H4 y z' u w' Q I4 r2 r4 q4))
theorem zlp {op op':CmpOp} {r r':R2} (ho:OpR X (compareOp op) r) (ho':OpR X (compareOp op') r') (ha:PE X a ta) (hb:PE X b tb) (hc:PE X c tc)
    (hm:lastMarks [op,op'] [b,c] = false:=by with_unfolding_all rfl):PT X (.Compare a [op,op'] [b,c] pos) (tTest (tChain r r' ta tb tc)):=by
  intro pins s σ H Q I h
  refine isTrue_chain (thn (ha pins s σ H _ I h) fun v s1 ⟨x,H1,I1,r1,q1⟩=>test_link (thn (hb pins s1 σ H1 _ I1 q1) fun u s2 ⟨y,H2,I2,r2,q2⟩ =>
    thn (ho pins s2 σ H2 x y v u _ I2 r1 r2 q2) fun d s3 ⟨z,H3,I3,r3,k,e,q3⟩=>?_)) hm
  subst e
  cases r3
  refine wpAny_truthy_bool ?_
  cases k with
  | false =>
    obtain ⟨k',e',q'⟩:=q3
    cases e'
    exact ite_ff ⟨H3,I3,q'⟩
  | true =>
    refine ite_tt (test_last (thn (hc pins s3 σ H3 _ I3 q3) fun w' s4 ⟨z',H4,I4,r4,q4⟩=>thn (ho' pins s4 σ H4 y z' u w' _ I4 r2 r4 q4) fun d' s5 ⟨z2,H5,I5,r5,k2,e2,q5⟩=>?_))
    subst e2
    cases r5
    exact wpAny_truthy_bool ⟨H5,I5,q5⟩
def TruV (K:PySem.W.Frag) (x:V) (H:Hp) (k:Bool):Prop :=
 match x with
 | .non=>k=false
 | .bl b=>k=b
 | .int i=>k=(i != 0)
 | .str y=>y.length<=sizeLine/\k=((y.length:Int) != 0)
 | .byt y=>y.size<=sizeLine/\k=((y.size:Int) != 0)
 | .ref p=>(∃ xs,SqL K H p xs/\k = !xs.isEmpty)\/(∃ xs,SqT K H p xs/\k = !xs.isEmpty)\/∃ kvs,H p=some (.dK kvs)/\k = !kvs.isEmpty
 | _=>False
theorem zqd {κ:Type} {kvs:List (κ×V)} {vs:List (κ×Value)} (r:KV kvs vs):(!vs.isEmpty) = !kvs.isEmpty:=by
 cases r <;> rfl
theorem zle {xs:List V} {its:List Value} (r:Vals xs its):(!its.toArray.isEmpty) = !xs.isEmpty:=by
 cases r <;> simp
theorem zmn:(sizeLine:Nat)<2 ^ 63:=by rw [sizeLine_eq]; decide
theorem zyh:TruR X (fun x H Q=>∃ k,TruV X.K x H k/\Q k H):=by
 intro pins s σ H x v Q I rx h
 obtain ⟨k,e,q⟩:=h
 have hl:=zmn
 have hs:sizeLine = 16777216:=sizeLine_eq
 cases x with
 | non =>
  cases rx
  have e':k=false:=e
  subst e'
  exact truthy_none ⟨H,I,q⟩
 | bl b =>
  cases rx
  have e':k=b:=e
  subst e'
  exact wpAny_truthy_bool ⟨H,I,q⟩
 | int i =>
  obtain ⟨t,rfl⟩:=rx
  have e':k=(i != 0):=e
  subst e'
  exact PySem.P.truthy_int ⟨H,I,q⟩
 | str y =>
  obtain ⟨t,rfl⟩:=rx
  obtain ⟨hy,e'⟩:y.length<=sizeLine/\k=((y.length:Int) != 0):=e
  subst e'
  exact PySem.P.truthy_str (by omega) ⟨H,I.tok _,q⟩
 | byt y =>
  obtain ⟨t,rfl⟩:=rx
  obtain ⟨hy,e'⟩:y.size<=sizeLine/\k=((y.size:Int) != 0):=e
  subst e'
  exact PySem.W.truthy_bytes (by omega) ⟨H,I.tok _,q⟩
 | ref p =>
  cases rx
  have e':(∃ xs,SqL X.K H p xs/\k = !xs.isEmpty)\/(∃ xs,SqT X.K H p xs/\k = !xs.isEmpty)\/∃ kvs,H p=some (.dK kvs)/\k = !kvs.isEmpty:=e
  rcases e' with ⟨xs,hx,e'⟩ | ⟨xs,hx,e'⟩ | ⟨kvs,hx,e'⟩
  ·subst e'
   obtain ⟨its,r,pl,hz⟩:=I.list hx
   have hlen:=r.length
   exact wpAny_truthy_list pl.isList (by simp only [List.size_toArray]; omega) ⟨H,I.tok _,by rw [zle r]; exact q⟩
  ·subst e'
   obtain ⟨its,r,pl,hz⟩:=I.tuple hx
   have hlen:=r.length
   exact truthy_tuple pl (by simp only [List.size_toArray]; omega) ⟨H,I.tok _,by rw [zle r]; exact q⟩
  ·subst e'
   obtain ⟨hz,hS,vs,r,m⟩:kvs.length<=sizeLine/\(p == sysModules)=false/\∃ vs,KV kvs vs/\s.heap.DictOf (zca X.prog X.w) p vs:=I.hok p _ hx
   have hlen:kvs.length=vs.length:=Paired.length r
   exact wpAny_truthy_dict hS m (by omega) ⟨H,I.tok _,by rw [zqd r]; exact q⟩
 | _=>exact (show False from e).elim
theorem ztp (ha:PE X a ta) (he:∀ whole,isTrue a X.env whole=(do let v <- whole; standAt a.pos; holding [v] (truthy v))) :
    PT X a (fun σ H Q=>ta σ H fun x H'=>∃ k,TruV X.K x H' k/\Q k H'):=by
  intro pins s σ H Q I h
  exact isTrue_plain (thn (ha pins s σ H _ I h) fun v s1 ⟨x,H1,I1,r1,q1⟩=>zyh pins s1 σ H1 x v Q I1 r1 q1) (he _)
theorem vals1 {x:V} {us:List Value} (r:Vals [x] us):∃ u,us = [u]/\RelV x u:=by
 cases r with
 | cons r1 r2=>cases r2; exact ⟨_,rfl,r1⟩
theorem vals2 {x y:V} {us:List Value} (r:Vals [x,y] us):∃ u w',us = [u,w']/\RelV x u/\RelV y w':=by
 cases r with
 | cons r1 r2 =>
  cases r2 with
  | cons r3 r4=>cases r4; exact ⟨_,_,rfl,r1,r3⟩
theorem zoz:CallR X (.builtin "abs") (fun xs H Q=>∃ i,xs = [.int i]/\Q (.int (if i<0 then -i else i)) H):=by
 intro pins s σ H xs us Q I r h
 obtain ⟨i,rfl,q⟩:=h
 obtain ⟨u,rfl,t,rfl⟩:=vals1 r
 exact call_abs_int fun u tk=>⟨.int (if i<0 then -i else i),H,I.tok _,⟨_,rfl⟩,q⟩
theorem zjj (hc:X.calm=true):CallR X (.builtin "max") (fun xs H Q=>∃ i j,xs = [.int i,.int j]/\Q (.int (if j > i then j else i)) H):=by
 intro pins s σ H xs us Q I r h
 obtain ⟨i,j,rfl,q⟩:=h
 obtain ⟨u,w',rfl,⟨t,rfl⟩,⟨t',rfl⟩⟩:=vals2 r
 refine max_two_ints (I.ok.hd hc) fun h' tk k=>⟨_,H,I.kept k,?_,q⟩
 by_cases hj:j > i
 ·rw [if_pos hj,if_pos hj]; exact ⟨_,rfl⟩
 ·rw [if_neg hj,if_neg hj]; exact ⟨_,rfl⟩
theorem zjk (hc:X.calm=true):CallR X (.builtin "min") (fun xs H Q=>∃ i j,xs = [.int i,.int j]/\Q (.int (if j<i then j else i)) H):=by
 intro pins s σ H xs us Q I r h
 obtain ⟨i,j,rfl,q⟩:=h
 obtain ⟨u,w',rfl,⟨t,rfl⟩,⟨t',rfl⟩⟩:=vals2 r
 refine min_two_ints (I.ok.hd hc) fun h' tk k=>⟨_,H,I.kept k,?_,q⟩
 by_cases hj:j<i
 ·rw [if_pos hj,if_pos hj]; exact ⟨_,rfl⟩
 ·rw [if_neg hj,if_neg hj]; exact ⟨_,rfl⟩
end
structure ObjM (h:Heap) (x dx C:Addr) (mA:Str->Option Value):Prop where
 obj:h.get? x=some (PySem.W.instObj C dx)
 ns:h.Ns1 dx mA
 ne:dx≠x
theorem zre {h:Heap} {dx:Addr} {mA:Str->Option Value} (n:h.Ns1 dx mA):∃ od,h.get? dx=some od/\∀ name,PySem.W.lookIn name od=some (mA name):=by
 obtain ⟨o,es,ep,ho,hd,hk,_,hm⟩:=n
 refine ⟨o,ho,fun name=>?_⟩
 have e:=hm name
 unfold nsFind findBy at e
 rw [<- Array.find?_toList] at e
 unfold PySem.W.lookIn
 rw [hd]
 dsimp only
 split
 ·rename_i y q
  rw [q] at e
  exact congrArg some e
 ·rename_i q
  rw [q] at e
  have a:es.toList.any (·.refKey)=false:=by
   rw [List.any_eq_false]
   intro y hy
   obtain ⟨z,t,hkey⟩:=hk y (Array.mem_toList_iff.mp hy)
   simp [DictEntry.refKey,hkey]
  have a':¬ es.toList.any (·.refKey)=true:=by rw [a]; exact Bool.false_ne_true
  rw [if_neg a']
  exact congrArg some e
theorem ObjM.look {h:Heap} {x dx C:Addr} {mA:Str->Option Value} (I:ObjM h x dx C mA):∃ od,PySem.W.InstAt h x (PySem.W.instObj C dx) C (some od)/\∀ name,PySem.W.lookIn name od=some (mA name) :=
 let ⟨od,ho,hl⟩:=zre I.ns
 ⟨od,⟨I.obj,rfl,rfl,ho⟩,hl⟩
section
variable {prog:Program} {w:World} {A:Around} {E:Value->Shared->Prop} {s:Shared} {K:PySem.W.Frag} {x dx C f:Addr} {mA:Str->Option Value} {name:Str} {v:Value}
theorem zvv {expr:Bool} {Q:Value->Shared->Prop} (X:K.In s.heap) (I:ObjM s.heap x dx C mA) (hg:PySem.W.plainGet K C name=true) (hh:PySem.W.hasDictIn K C=true)
    (ha:PySem.W.findIn K (.ref C) name=some none) (hv:mA name=some v) (hv':PySem.W.handedIn v=true) (h:Q v { s with toks:=s.toks+1 }) :
    wpAny (model prog w) A (getAttr (.ref x) name expr) Q E s:=by
  obtain ⟨od,J,hl⟩:=I.look
  exact PySem.W.get_value X J (PySem.W.plainGet_of hg).1 (PySem.W.findObj_own hh ha rfl (by rw [hl,hv])) hv' h
theorem ztq {pl:Sem Bool} {Q:Value×List Value->Shared->Prop} (X:K.In s.heap) (I:ObjM s.heap x dx C mA) (hg:PySem.W.plainGet K C name=true)
    (hf:PySem.W.findIn K (.ref C) name=some (some (.ref f))) (ht:PySem.W.isFn K (.ref f)=true) (hv:mA name=none) (h:Q (.ref f,[.ref x]) s) :
    wpAny (model prog w) A (getMethod (.ref x) name pl) Q E s:=by
  obtain ⟨od,J,hl⟩:=I.look
  exact PySem.W.method_fn X J (PySem.W.plainGet_of hg).1 (PySem.W.plainGet_of hg).2 hf (beq_iff_eq.mp ht) (by show (PySem.W.lookIn name od).map (·.isSome)=some false; rw [hl,hv]; rfl) h
theorem zvw {ns:List Str} {Q:Unit->Shared->Prop} (X:K.In s.heap) (I:ObjM s.heap x dx C mA)
    (hs:PySem.W.findIn K (.ref C) "__setattr__" = some (some (.builtin "object.__setattr__"))) (hp:PySem.W.plainOver K C=true) (ht:PySem.W.takerIn K C name=some none) (hh:PySem.W.hasDictIn K C=true)
    (hw:PySem.Within mA ns) (hsz:ns.length<=sizeLine)
    (h:∀ h',ObjM h' x dx C (fun y=>if y=name then some v else mA y)->Heap.SameBut dx s.heap h'->Q () { s with heap:=h',toks:=s.toks+2 }) :
    wpAny (model prog w) A (setAttr (.ref x) name v) Q E s:=by
  obtain ⟨od,J,hl⟩:=I.look
  refine PySem.W.set_plain X J hs (PySem.W.osa_open (s:={ s with toks:=s.toks+1 }) (r:=none) X J hp ht fun b=>?_)
  obtain ⟨cd,hc,hd'⟩:=PySem.W.any_some hh
  have hx:s.heap.get? x=some ⟨.ref C,some dx,.plain,#[]⟩:=I.obj
  refine wpAny_bind (wpAny_pure (wpAny_bind (wpAny_bind (wpAny_loadPart hx (wpAny_bind (PySem.W.Looks.here (s:={ s with toks:=s.toks+1 }) (PySem.W.looks_clsIn X hc) ?_))))))
  rw [hd']
  refine wpAny_pure (a:=some dx) (wpAny_bind (wpAny_pure (wpAny_bind ?_)))
  refine wpAny_nsSet1 (s:={ s with toks:=s.toks+1 }) I.ns fun h' hn2 hs2=>?_
  obtain ⟨oD,esD,epD,hoD,hdD,hcD⟩:=hn2.count (PySem.Within.cons name v hw)
  refine wpAny_bind (wpAny_lookBehind hoD (by rw [hdD]; exact pastItsLine_dict (Nat.le_trans hcD (by rw [List.length_cons]; omega))) ?_)
  exact wpAny_pure (h _ ⟨(hs2.2 _ (Ne.symm I.ne)).trans I.obj,hn2,I.ne⟩ hs2)
theorem ztr {R:Result->Shared->Prop} {vs:List Value} {kw:List (Str×Value)} (X:K.In s.heap) (hm:PySem.W.makesIn K C=true)
    (hi:PySem.W.findIn K (.ref C) "__init__" = some (some (.ref f))) (hf:PySem.W.typeIn K (.ref f)=some (.type "function"))
    (h:codeAny (model prog w) (A.under (.builtin "type.__call__" ⟨.ref C :: vs,kw⟩)) (.call (.ref f) ⟨.ref (s.heap.objs.size+1) :: vs,kw⟩) (PySem.W.InitBack (s.heap.objs.size+1) R)
      { s with heap:=(s.heap.push PySem.W.emptyDict).push (PySem.W.instObj C s.heap.objs.size) }) :
    codeAny (model prog w) A (.call (.ref C) ⟨vs,kw⟩) R s:=by
  obtain ⟨hh,g,d,t,os⟩:=s
  exact PySem.W.make_core (PySem.W.makes_of X hm) (PySem.W.looks_findIn X hi) (fun self=>PySem.W.bind_fn X self hf) (.inl rfl) h
end
def putF (f:Str) (v:V):List (Str×V)->List (Str×V)
 | []=>[(f,v)]
 | (g,x) :: r=>if g=f then (g,v) :: r else (g,x) :: putF f v r
theorem zem (f g:Str) (v:V):∀ fs:List (Str×V),(putF f v fs).lookup g=if g=f then some v else fs.lookup g
 | []=>by
  show List.lookup g [(f,v)] = _
  by_cases h:g=f
  ·have hb:(g == f)=true:=beq_iff_eq.mpr h
   simp only [List.lookup,hb,if_pos h]
  ·have hb:(g == f)=false:=beq_eq_false_iff_ne.mpr h
   simp only [List.lookup,hb,if_neg h]
 | (k,x) :: r=>by
  have ih:=zem f g v r
  rw [show putF f v ((k,x) :: r)=(if k=f then (k,v) :: r else (k,x) :: putF f v r) from rfl]
  by_cases hk:k=f
  ·rw [if_pos hk]
   by_cases h:g=k
   ·have hb:(g == k)=true:=beq_iff_eq.mpr h
    simp only [List.lookup,hb,if_pos (h.trans hk)]
   ·have hb:(g == k)=false:=beq_eq_false_iff_ne.mpr h
    simp only [List.lookup,hb,if_neg (fun e:g=f=>h (e.trans hk.symm))]
  ·rw [if_neg hk]
   by_cases h:g=k
   ·have hb:(g == k)=true:=beq_iff_eq.mpr h
    simp only [List.lookup,hb,if_neg (fun e:g=f=>hk (h.symm.trans e))]
   ·have hb:(g == k)=false:=beq_eq_false_iff_ne.mpr h
    simp only [List.lookup,hb]
    exact ih
theorem zjl (f:Str) (v:V):∀ fs:List (Str×V),f∈(putF f v fs).map (·.1)/\∀ g,g∈fs.map (·.1)->g∈(putF f v fs).map (·.1)
 | []=>⟨by simp [putF],fun g h=>by simp at h⟩
 | (k,x) :: r=>by
  obtain ⟨i1,i2⟩:=zjl f v r
  rw [show putF f v ((k,x) :: r)=(if k=f then (k,v) :: r else (k,x) :: putF f v r) from rfl]
  by_cases hk:k=f
  ·rw [if_pos hk]
   subst hk
   exact ⟨by simp,fun g h=>by simpa using h⟩
  ·rw [if_neg hk]
   refine ⟨?_,fun g h=>?_⟩
   ·rw [List.map_cons]
    exact List.mem_cons_of_mem _ i1
   ·rw [List.map_cons] at h ⊢
    rcases List.mem_cons.mp h with e | e
    ·exact List.mem_cons.mpr (.inl e)
    ·exact List.mem_cons_of_mem _ (i2 g e)
theorem zjm (f:Str) (v:V):∀ fs:List (Str×V),(putF f v fs).length<=fs.length+1
 | []=>by simp [putF]
 | (k,x) :: r=>by
  have ih:=zjm f v r
  rw [show putF f v ((k,x) :: r)=(if k=f then (k,v) :: r else (k,x) :: putF f v r) from rfl]
  by_cases hk:k=f
  ·rw [if_pos hk,List.length_cons,List.length_cons]; omega
  ·rw [if_neg hk,List.length_cons,List.length_cons]; omega
theorem RelO.some_of {v:V} {o:Option Value} (r:RelO (some v) o):∃ u,o=some u/\RelV v u:=by
 cases o with
 | none=>exact (show False from r).elim
 | some u=>exact ⟨u,rfl,r⟩
theorem RelO.none_of {o:Option Value} (r:RelO none o):o=none:=by
 cases o with
 | none=>rfl
 | some u=>exact (show False from r).elim
theorem zrf {v:V} {u:Value} (r:RelV v u):PySem.W.handedIn u=true:=by
 cases v with
 | non=>cases (show u=Value.none from r); rfl
 | bl b=>cases (show u=Value.bool b from r); rfl
 | int i=>obtain ⟨t,e⟩:=(show ∃ t,u=Value.int i t from r); cases e; rfl
 | str x=>obtain ⟨t,e⟩:=(show ∃ t,u=Value.str x t from r); cases e; rfl
 | byt b=>obtain ⟨t,e⟩:=(show ∃ t,u=Value.bytes b t from r); cases e; rfl
 | flt b=>obtain ⟨t,e⟩:=(show ∃ t,u=Value.float b t from r); cases e; rfl
 | ref a=>cases (show u=Value.ref a from r); rfl
 | ty n=>cases (show u=Value.type n from r); rfl
section
variable {P:Program} {w:World} {H H':Hp} {h h':Heap} {a C dx:Addr} {fs fs':List (Str×V)}
theorem zob (hok:HOk P w H h) (e:H a=some (.ins C dx fs)):∃ mA,ObjM h a dx C mA/\(∀ f,RelO (fs.lookup f) (mA f))/\PySem.Within mA (fs.map (·.1))/\fs.length<=1000/\H dx=some (.own a):=by
 obtain ⟨d,z,ne,ob,mA,n,r,q⟩:=(show ObjOk P w H h a (.ins C dx fs) from hok a _ e)
 exact ⟨mA,⟨ob,n,ne⟩,r,q,z,d⟩
end
structure Cls (K:PySem.W.Frag) (C:Addr):Prop where
 pg:PySem.W.plainGet K C Str.empty=true
 hd:PySem.W.hasDictIn K C=true
 po:PySem.W.plainOver K C=true
 sa:PySem.W.findIn K (.ref C) "__setattr__" = some (some (.builtin "object.__setattr__"))
theorem Cls.get {K:PySem.W.Frag} {C:Addr} (c:Cls K C) (f:Str):PySem.W.plainGet K C f=true:=c.pg
def NoAttr (K:PySem.W.Frag) (C:Addr) (f:Str):Prop:=PySem.W.findIn K (.ref C) f=some none
theorem NoAttr.taker {K:PySem.W.Frag} {C:Addr} {f:Str} (n:NoAttr K C f):PySem.W.takerIn K C f=some none:=by
 unfold PySem.W.takerIn
 rw [show PySem.W.findIn K (.ref C) f=some none from n]
 rfl
structure Meth (K:PySem.W.Frag) (C:Addr) (m:Str) (f:Addr):Prop where
 at_:PySem.W.findIn K (.ref C) m=some (some (.ref f))
 fn:PySem.W.isFn K (.ref f)=true
 kp:PySem.W.keepIn K (.ref f)=true
section
variable {X:Cx} {pins:List (Addr×Obj)} {σ:St} {H:Hp} {s:Shared} {a C dx:Addr} {fs:List (Str×V)} {f:Str} {v:V} {A:Around} {E:Value->Shared->Prop}
theorem zqe {b:Bool} {Q:Value->Shared->Prop} (I:Inv X pins σ H s) (e:H a=some (.ins C dx fs)) (c:Cls X.K C) (n:NoAttr X.K C f) (l:fs.lookup f=some v)
    (h:∀ u s',Inv X pins σ H s'->RelV v u->Q u s'):wpAny (model X.prog X.w) A (getAttr (.ref a) f b) Q E s:=by
  obtain ⟨mA,O,r,_,_,_⟩:=zob I.hok e
  obtain ⟨u,hu,ru⟩:=RelO.some_of (v:=v) (o:=mA f) (by rw [<- l]; exact r f)
  exact zvv I.kIn O (c.get f) c.hd n hu (zrf ru) (h u _ (I.tok _) ru)
theorem zlf {m:Str} {g:Addr} {pl:Sem Bool} {Q:Value×List Value->Shared->Prop} (I:Inv X pins σ H s) (e:H a=some (.ins C dx fs)) (c:Cls X.K C) (k:Meth X.K C m g) (l:fs.lookup m=none)
    (h:Q (.ref g,[.ref a]) s):wpAny (model X.prog X.w) A (getMethod (.ref a) m pl) Q E s:=by
  obtain ⟨mA,O,r,_,_,_⟩:=zob I.hok e
  have hn:mA m=none:=RelO.none_of (by rw [<- l]; exact r m)
  exact ztq I.kIn O (c.get m) k.at_ k.fn hn h
theorem zqf {y:V} {u:Value} {Q:Unit->Shared->Prop} (I:Inv X pins σ H s) (e:H a=some (.ins C dx fs)) (c:Cls X.K C) (n:NoAttr X.K C f) (hl:fs.length<1000) (ry:RelV y u)
    (h:∀ s',Inv X pins σ (upd H a (.ins C dx (putF f y fs))) s'->Q () s'):wpAny (model X.prog X.w) A (setAttr (.ref a) f u) Q E s:=by
  obtain ⟨mA,O,r,wi,_,ho⟩:=zob I.hok e
  have hz:(fs.map (·.1)).length<=sizeLine:=by rw [List.length_map,sizeLine_eq]; omega
  refine zvw I.kIn O c.sa c.po n.taker c.hd wi hz fun h' O' sb=>h _ ?_
  have hd:∃ o,h'.get? dx=some o:=let ⟨o,_,_,e',_⟩:=O'.ns; ⟨o,e'⟩
  refine I.write (x:=a) (e:=dx) (by rw [e]; exact True.intro) (.inr ho) (fun b q hb z=>(sb.2 b hb).trans z) hd ?_
  refine ⟨by rw [zai O.ne]; exact ho,?_,O.ne,O'.obj,_,O'.ns,fun g=>?_,fun g hg=>?_⟩
  · have:=zjm f y fs; omega
  · show RelO ((putF f y fs).lookup g) (if g=f then some u else mA g)
    rw [zem]
    by_cases q:g=f
    · rw [if_pos q,if_pos q]; exact ry
    · rw [if_neg q,if_neg q]; exact r g
  · by_cases q:g=f
    · rw [q]; exact (zjl f y fs).1
    · refine (zjl f y fs).2 g (wi g fun z=>hg ?_)
      show (if g=f then some u else mA g)=none
      rw [if_neg q]; exact z
theorem Inv.made (I:Inv X pins σ H s):Inv X pins σ (upd (upd H s.heap.objs.size (.own (s.heap.objs.size+1))) (s.heap.objs.size+1) (.ins C s.heap.objs.size []))
    { s with heap:=(s.heap.push PySem.W.emptyDict).push (PySem.W.instObj C s.heap.objs.size) }:=by
  have e1:(s.heap.push PySem.W.emptyDict).get? s.heap.objs.size=some PySem.W.emptyDict:=Heap.get?_push_size s.heap rfl
  have e2:((s.heap.push PySem.W.emptyDict).push (PySem.W.instObj C s.heap.objs.size)).get? (s.heap.objs.size+1)=some (PySem.W.instObj C s.heap.objs.size):=by
    have:=Heap.get?_push_size (s.heap.push PySem.W.emptyDict) (o:=PySem.W.instObj C s.heap.objs.size) rfl
    rwa [Heap.size_push] at this
  have e3:(s.heap.push PySem.W.emptyDict).Ns s.heap.objs.size (fun _=>none):=⟨PySem.W.emptyDict,#[],_,e1,rfl,(fun e he=>absurd he (by simp)),fun _=>rfl⟩
  have I1:=I.laid (a:=s.heap.objs.size) (o:=.own (s.heap.objs.size+1)) (h':=s.heap.push PySem.W.emptyDict) (t':=s.toks) (fun b u q=>Heap.get?_push_of_some _ q) (Nat.le_refl _) ⟨_,e1⟩
  refine I1.laid (a:=s.heap.objs.size+1) (o:=.ins C s.heap.objs.size []) (t':=s.toks) (fun b u q=>Heap.get?_push_of_some _ q) (Nat.le_of_eq (Heap.size_push _ _)) ?_
  have ne:s.heap.objs.size≠s.heap.objs.size+1:=Nat.ne_of_lt (Nat.lt_succ_self _)
  refine ⟨by rw [zai ne,zac],Nat.zero_le _,ne,e2,fun _=>none,(Heap.Ns1.of_empty e3).at fun o q=>Heap.get?_push_of_some _ q,fun _=>True.intro,fun y hy=>absurd rfl hy⟩
theorem zvx {prog:Program} {w:World} {env:Env} {e:Expr} {f:Str} {pos:Pos} {s:Shared} {Q:Value->Shared->Prop} (hb:attributeBase e f env (eval e env)=eval e env)
    (h:wpAny (model prog w) A (eval e env) (fun o s₁=>wpAny (model prog w) A (getAttr o f true) Q E s₁) E s):wpAny (model prog w) A (eval (.Attribute e f pos) env) Q E s :=
  Attribute_any_ h (by rw [arm_eval_Attribute,hb])
end
def tFld (K:PySem.W.Frag) (ta:TE) (f:Str):TE:=fun σ H Q=>ta σ H fun x H1=>∃ a C dx fs v,x = .ref a/\H1 a=some (.ins C dx fs)/\Cls K C/\NoAttr K C f/\fs.lookup f=some v/\Q v H1
def sFld (K:PySem.W.Frag) (ta tv:TE) (f:Str):TS:=fun D σ H=>tv σ H fun y H1=>ta σ H1 fun x H2=>∃ a C dx fs,x = .ref a/\H2 a=some (.ins C dx fs)/\Cls K C/\NoAttr K C f/\fs.length<1000 /\
 D.nx σ (upd H2 a (.ins C dx (putF f y fs)))
section
variable {X:Cx} {o e value:Expr} {f:Str} {pos pos' tpos:Pos} {ta tv:TE}
theorem zaq (he:PE X e ta) (hb:attributeBase e f X.env (eval e X.env)=eval e X.env):PE X (.Attribute e f pos) (tFld X.K ta f):=by
 intro pins s σ H Q I h
 refine zvx hb (thn (he pins s σ H _ I h) fun u s1 ⟨x,H1,I1,rx,a,C,dx,fs,v,ex,ea,c,n,l,q⟩=>?_)
 subst ex
 obtain rfl:u=Value.ref a:=rx
 exact zqe I1 ea c n l fun u' s2 I2 ru=>⟨v,H1,I2,ru,q⟩
theorem zcg (ha:PE X o ta) (hv:PE X value tv) (hs:swapsWith value (some (.Attribute o f pos')) pos.line X.env=pure false):PS X (.Assign [.Attribute o f pos'] value pos) (sFld X.K ta tv f):=by
 intro pins s σ H D I h
 refine plainObj_wpAny_Assign_Attribute (thn (hv pins s σ H _ I h) fun u s1 ⟨y,H1,I1,ry,q⟩=>thn (ha pins s1 σ H1 _ I1 q) fun ov s2 ⟨x,H2,I2,rx,a,C,dx,fs,ex,ea,c,n,l,q2⟩=>?_) hs
 subst ex
 obtain rfl:ov=Value.ref a:=rx
 exact zqf I2 ea c n l ry fun s3 I3=>⟨σ,_,I3,q2⟩
end
section
variable {X:Cx} {pins:List (Addr×Obj)} {σ:St} {H:Hp} {s:Shared} {A:Around} {E:Value->Shared->Prop} {Q:Value->Shared->Prop} {c:Value} {b:Bool}
end
structure Room (k:Nat) (A:Around):Prop where
 hd:A.handled=none
 dp:A.depth+3*k+5<recursionLimit
 un:A.units+16*k+200<cLine
theorem Room.mono {j k:Nat} {A:Around} (r:Room k A) (h:j<=k):Room j A:=⟨r.hd,by have:=r.dp; omega,by have:=r.un; omega⟩
theorem Room.deeper {k:Nat} {A:Around} (r:Room (k+1) A) (env:Env):Room k (A.deeper env) :=
 ⟨r.hd,by have:=r.dp; show A.depth+1+3*k+5 < _; omega,by have:=r.un; show A.units+3+16*k+200 < _; omega⟩
theorem zqg {A:Around} {C:Addr} {us:List Value} {kw:List (Str×Value)}:(A.under (.builtin "type.__call__" ⟨.ref C :: us,kw⟩)).depth=A.depth+1:=by
 first | rfl | simp [Around.under,Code.weight,Code.isCreation,Code.isGuard,Code.isCaller,Code.frames,Code.isFrame,guardIds]
theorem zqh {A:Around} {C:Addr} {us:List Value} {kw:List (Str×Value)}:(A.under (.builtin "type.__call__" ⟨.ref C :: us,kw⟩)).units=A.units+1:=by
 first | rfl | simp [Around.under,Code.cUnits,Code.frames,Code.isFrame]
theorem Room.make {k:Nat} {A:Around} (r:Room (k+1) A) (C:Addr) (us:List Value) (kw:List (Str×Value)):Room k (A.under (.builtin "type.__call__" ⟨.ref C :: us,kw⟩)) :=
 ⟨r.hd,by have:=r.dp; rw [zqg]; omega,by have:=r.un; rw [zqh]; omega⟩
theorem Room.depth {k:Nat} {A:Around} (r:Room k A):A.depth<recursionLimit:=by have:=r.dp; omega
theorem Room.units {k:Nat} {A:Around} (r:Room k A):A.units+64<cLine:=by have:=r.un; omega
def tNil:TA:=fun _ H Q=>Q [] H
def tCons (ta:TE) (tr:TA):TA:=fun σ H Q=>ta σ H fun x H1=>tr σ H1 fun xs H2=>Q (x :: xs) H2
section
variable {X:Cx} {e:Expr} {es:List Expr} {te:TE} {t:TA} {pos:Pos}
theorem zaf:PA X [] tNil:=fun _ _ _ _ H Q I h=>Calls.spliced_nil ⟨[],H,I,.nil,h⟩
theorem zaa (ha:PE X e te) (hr:PA X es t) (hs:starEach (e :: es) X.env=(false,eval e X.env) :: starEach es X.env:=by rfl):PA X (e :: es) (tCons te t):=by
 intro pos pins s σ H Q I h
 rw [hs]
 show wpAny _ _ (spliced ((false,eval e X.env) :: backTo pos (starEach es X.env))) _ _ s
 refine Calls.spliced_cons (thn (ha pins s σ H _ I h) fun u s1 ⟨x,H1,I1,r1,q1⟩=>?_)
 exact thn (hr pos pins s1 σ H1 _ I1 q1) fun us s2 ⟨xs,H2,I2,r2,q2⟩=>⟨x :: xs,H2,I2,.cons r1 r2,q2⟩
def tTup (t:TA):TE:=fun σ H Q=>t σ H fun xs H1=>xs.length<=sizeLine/\∀ p,H1 p=none->Q (.ref p) (upd H1 p (.tup xs))
def tLst (t:TA):TE:=fun σ H Q=>t σ H fun xs H1=>xs.length<=sizeLine/\∀ p,H1 p=none->Q (.ref p) (upd H1 p (.lst xs))
theorem zfz {x1} (h:PA X es t):PE X (.Tuple es x1 pos) (tTup t):=by
 intro pins s σ H Q I hq
 refine wpAny_Tuple_spliced (thn (h pos pins s σ H _ I hq) fun us s1 ⟨xs,H1,I1,r,z,q⟩=>⟨by rw [<- r.length]; exact z,?_⟩)
 have hf:H1 s1.heap.objs.size=none:=I1.hok.fresh (Nat.le_refl _)
 refine ⟨.ref s1.heap.objs.size,upd H1 s1.heap.objs.size (.tup xs),I1.laid (t':=s1.toks) (fun b u e=>Heap.get?_push_of_some _ e) (Nat.le_refl _) ?_,rfl,q _ hf⟩
 exact ⟨z,us,r,⟨_,Heap.get?_push_size _ rfl,rfl,_,rfl⟩⟩
theorem zgl (h:PA X es t):PE X (.List es pos) (tLst t):=by
 intro pins s σ H Q I hq
 refine wpAny_List_spliced (thn (h pos pins s σ H _ I hq) fun us s1 ⟨xs,H1,I1,r,z,q⟩=>⟨by rw [<- r.length]; exact z,?_⟩)
 have hf:H1 s1.heap.objs.size=none:=I1.hok.fresh (Nat.le_refl _)
 refine ⟨.ref s1.heap.objs.size,upd H1 s1.heap.objs.size (.lst xs),I1.laid (t':=s1.toks) (fun b u e=>Heap.get?_push_of_some _ e) (Nat.le_refl _) ?_,rfl,q _ hf⟩
 exact ⟨z,us,0,r,Heap.get?_push_size _ rfl⟩
end
abbrev Sp:=List V->Hp->VK->XK->Prop
abbrev CXT:=List Env->Hp->Shared->XK->Value->Shared->Prop
structure Env0 (P:Program) (w:World) (K:PySem.W.Frag) (mg:Str->Option Value) (base:Heap) (A:Around) (outer:List Env) (s:Shared) (H:Hp):Prop where
 frames:A.frames=some outer
 mod:Mod K mg base
 bs:∀ b o,base.get? b=some o->s.heap.get? b=some o/\H b=none
 bsz:base.objs.size<=s.heap.objs.size
 funs:s.heap.FunFrames base outer
 frf:∀ b∈frs outer,H b=none
 hok:HOk P w H s.heap
 bare:AllBare s.gens
def CE (outer:List Env) (P:Program) (w:World) (H:Hp) (s:Shared) (Q:VK) (u:Value) (s':Shared):Prop :=
 ∃ v H',s'.os=s.os/\AllBare s'.gens/\Un (frs outer) [] H H' s.heap s'.heap/\HOk P w H' s'.heap/\RelV v u/\Q v H'
def CR (CX:CXT) (outer:List Env) (P:Program) (w:World) (H:Hp) (s:Shared) (Q:VK) (E:XK) (r:Result) (s':Shared):Prop :=
 match r with
 | .ok (.ret u)=>CE outer P w H s Q u s'
 | .ok _=>False
 | .error e=>CX outer H s E e s'
structure FnOk (P:Program) (w:World) (K:PySem.W.Frag) (mg:Str->Option Value) (base:Heap) (CX:CXT) (k:Nat) (f:Addr) (fd:FuncData) (ps:List Str) (sp:Sp):Prop where
 len:∀ vs H Q E,sp vs H Q E->vs.length=ps.length
 run:∀ (A:Around) (outer:List Env) (s:Shared) (H:Hp) (args:Args) (us:List Value) (vs:List V) (Q:VK) (E:XK),Room k A->Env0 P w K mg base A outer s H->BindsTo s fd args (ps.zip us)->Vals vs us->sp vs H Q E ->
  codeAny (model P w) A (.call (.ref f) args) (CR CX outer P w H s Q E) s
theorem Env0.make {P:Program} {w:World} {K:PySem.W.Frag} {mg:Str->Option Value} {base:Heap} {A:Around} {outer:List Env} {s:Shared} {H:Hp} (e:Env0 P w K mg base A outer s H) (C:Addr) (us:List Value) (kw:List (Str×Value)) :
    Env0 P w K mg base (A.under (.builtin "type.__call__" ⟨.ref C :: us,kw⟩)) outer s H:=⟨by first | exact e.frames | (simpa [Around.under,Code.envs,Code.isFrame,pushEnvs] using e.frames),e.mod,e.bs,e.bsz,e.funs,e.frf,e.hok,e.bare⟩
section
variable {X:Cx} {pins:List (Addr×Obj)} {σ:St} {H:Hp} {s s':Shared}
theorem Inv.env0 (I:Inv X pins σ H s):Env0 X.prog X.w X.K X.mg X.base X.A X.stack s H :=
 ⟨I.ok.frames,I.ok.mod,I.bs,Nat.le_trans I.ok.bsz I.sz,I.stack,I.stkFree,I.hok,I.bare⟩
theorem Inv.after {Q:VK} {u:Value} (I:Inv X pins σ H s) (h:CE X.stack X.prog X.w H s Q u s'):EP X pins σ Q u s':=by
 obtain ⟨v,H',os,bare,un,hok,r,q⟩:=h
 obtain ⟨hh,g,d,t,os'⟩:=s'
 obtain rfl:os'=s.os:=os
 exact ⟨v,H',I.call (h':=hh) (g':=g) (d':=d) (t':=t) (ch:=[]) un hok bare (fun b z=>absurd z (by simp)),r,q⟩
end
def tCall (sp:Sp) (dvs:List V) (E:XK) (t:TA):TE:=fun σ H Q=>t σ H fun vs H1=>sp (vs++dvs) H1 Q E
def Binds (K:PySem.W.Frag) (fd:FuncData) (ps:List Str) (ds:List Value):Prop :=
 ∀ (s:Shared) (us:List Value),K.In s.heap->(us++ds).length=ps.length->BindsTo s fd ⟨us,[]⟩ (ps.zip (us++ds))
theorem Binds.all {K:PySem.W.Frag} {fd:FuncData} {ps:List Str} (h:∀ us:List Value,us.length=ps.length->bindArgs fd ⟨us,[]⟩ = pure (ps.zip us)):Binds K fd ps []:=fun s us _ hl=>by
 rw [List.append_nil] at hl ⊢
 exact .of_eq (h us hl)
section
variable {X:Cx} {CX:CXT} {k:Nat} {f C:Addr} {fd:FuncData} {ps:List Str} {sp:Sp} {dvs:List V} {ds:List Value} {E:XK} {x m:Str} {p pos apos:Pos} {e o:Expr} {es:List Expr} {ta:TE} {t:TA}
structure Mk (K:PySem.W.Frag) (C f:Addr):Prop where
 makes:PySem.W.makesIn K C=true
 init:PySem.W.findIn K (.ref C) "__init__" = some (some (.ref f))
 fn:PySem.W.isFn K (.ref f)=true
 kp:PySem.W.keepIn K (.ref C)=true
end
section
variable {X:Cx} {CX:CXT} {k:Nat} {f C:Addr} {fd:FuncData} {ps ks:List Str} {sp:Sp} {E:XK} {x m:Str} {p pos apos kpos:Pos} {e o:Expr} {es:List Expr} {kws:List Keyword} {te ta:TE} {t tk:TA} {nm:Option Str}
variable {g:List Value->List Value->List Value} {gV:List V->List V->List V}
end
structure FnScope (N P:List Str) (sc:Scope):Prop where
 kind:sc.kind = .function
 co:sc.isCoroutine=false
 gen:sc.isGenerator=false
 nd:N.Nodup
 pre:N.take P.length=P
 par:∀ x∈P,sc.names.lookup x=some .local\/sc.names.lookup x=some .cell
 nofree:∀ y∈sc.names,y.2≠.free
theorem zmo {kindOf:Str->Option NameKind} {x:Str}:∀ {binds:List (Str×Value)} {m:Str->Option Value},(∀ v,(x,v) ∉ binds)->bindL kindOf binds m x=m x
 | [],_,_=>rfl
 | (n,v) :: r,m,h=>by
  unfold bindL
  rw [zmo fun w hw=>h w (List.mem_cons_of_mem _ hw)]
  split
  ·have:x≠n:=by rintro rfl; exact h v List.mem_cons_self
   simp [this]
  ·rfl
theorem zmp {kindOf:Str->Option NameKind} {x:Str}:∀ {binds:List (Str×Value)} {m:Str->Option Value},(∀ v,(x,v) ∉ binds)->bindC kindOf binds m x=m x
 | [],_,_=>rfl
 | (n,v) :: r,m,h=>by
  unfold bindC
  rw [zmp fun w hw=>h w (List.mem_cons_of_mem _ hw)]
  split
  ·rfl
  ·have:x≠n:=by rintro rfl; exact h v List.mem_cons_self
   simp [this]
theorem zmq {kindOf:Str->Option NameKind} {x:Str} {v:Value}:∀ {P:List Str} {vs:List Value} {i:Nat} {m:Str->Option Value},P.Nodup->P[i]? = some x->vs[i]? = some v->kindOf x=some .local ->
    bindL kindOf (P.zip vs) m x=some v
  | [],_,_,_,_,h,_,_=>by simp at h
  | _ :: _,[],_,_,_,_,h,_=>by simp at h
  | p :: P,w :: vs,0,m,nd,h1,h2,hk=>by
    simp at h1 h2; subst h1; subst h2
    show bindL kindOf ((p,w) :: P.zip vs) m p = _
    unfold bindL
    rw [zmo fun v hv=>(List.nodup_cons.mp nd).1 (List.of_mem_zip hv).1,if_pos hk]
    simp
  | p :: P,w :: vs,i+1,m,nd,h1,h2,hk=>by
    show bindL kindOf ((p,w) :: P.zip vs) m x = _
    unfold bindL
    exact zmq (i:=i) (List.nodup_cons.mp nd).2 (by simpa using h1) (by simpa using h2) hk
theorem zmr {kindOf:Str->Option NameKind} {x:Str} {v:Value}:∀ {P:List Str} {vs:List Value} {i:Nat} {m:Str->Option Value},P.Nodup->P[i]? = some x->vs[i]? = some v->kindOf x≠some .local ->
    bindC kindOf (P.zip vs) m x=some v
  | [],_,_,_,_,h,_,_=>by simp at h
  | _ :: _,[],_,_,_,_,h,_=>by simp at h
  | p :: P,w :: vs,0,m,nd,h1,h2,hk=>by
    simp at h1 h2; subst h1; subst h2
    show bindC kindOf ((p,w) :: P.zip vs) m p = _
    unfold bindC
    rw [zmp fun v hv=>(List.nodup_cons.mp nd).1 (List.of_mem_zip hv).1,if_neg hk]
    simp
  | p :: P,w :: vs,i+1,m,nd,h1,h2,hk=>by
    show bindC kindOf ((p,w) :: P.zip vs) m x = _
    unfold bindC
    exact zmr (i:=i) (List.nodup_cons.mp nd).2 (by simpa using h1) (by simpa using h2) hk
def start (N:List Str) (vs:List V):St:=vs.map some++List.replicate (N.length-vs.length) none
def cxOf (CX:CXT) (P:Program) (w:World) (K:PySem.W.Frag) (mg:Str->Option Value) (base:Heap) (N:List Str) (qual:Str) (scope:Scope) (f:Addr) (cd:Value) (A:Around) (outer:List Env) (s:Shared) (H:Hp) (E:XK):Cx where
 prog:=P
 w:=w
 K:=K
 mg:=mg
 base:=base
 A:=A.deeper (envOfC qual scope s.heap.objs.size f cd)
 N:=N
 s₀:=s
 H₀:=H
 env:=envOfC qual scope s.heap.objs.size f cd
 outer:=outer
 stack:=envOfC qual scope s.heap.objs.size f cd :: outer
 ex:=[]
 calm:=true
 fn:=fun _=>true
 pn:=[]
 xe:=fun e s'=>wpAny (model P w) (A.deeper (envOfC qual scope s.heap.objs.size f cd)) (leaving (envOfC qual scope s.heap.objs.size f cd) e) (fun _ s''=>CX outer H s E e s'') (fun e' s''=>CX outer H s E e' s'') s'
theorem zpa {sc:Scope} {n:Nat} {x:Str} (h:sc.names.lookup x=some .cell):∃ c,(cellsFrom n sc.names []).lookup x=some c:=by
 have q:=PySem.W.cellsFrom_some sc.names n [] (.inl h)
 exact Option.isSome_iff_exists.mp q
theorem zrg {CX:CXT} {P:Program} {w:World} {K:PySem.W.Frag} {mg:Str->Option Value} {base:Heap} {N ps:List Str} {qual:Str} {scope:Scope} {f:Addr} {cd:Value} {A:Around} {outer:List Env} {s s1:Shared} {H:Hp} {E:XK} {us:List Value} {vs:List V}
    (S:FnScope N ps scope) (hd:A.handled=none) (e0:Env0 P w K mg base A outer s H) (hl:vs.length=ps.length) (r:Vals vs us)
    (x:InCallC s s.heap.objs.size (bindL (envOfC qual scope s.heap.objs.size f cd).kindOf (ps.zip us) fun _=>none) (cellsFrom (s.heap.objs.size+1) scope.names []) (bindC (envOfC qual scope s.heap.objs.size f cd).kindOf (ps.zip us) fun _=>none) s1) :
    Inv (cxOf CX P w K mg base N qual scope f cd A outer s H E) [] (start N vs) H s1:=by
  have hpl:ps.length<=N.length:=by have:=congrArg List.length S.pre; rw [List.length_take] at this; omega
  obtain ⟨h1,tk,rfl,hk⟩:=x.done
  have noA:∀ b:Addr,b ∉ (cxOf CX P w K mg base N qual scope f cd A outer s H E).ex:=fun b z=>absurd (show b∈([]:List Addr) from z) (by simp)
  refine ⟨⟨e0.mod,S.kind,rfl,rfl,Nat.le_refl _,fun y z c h1 h2=>?_,fun y hy=>?_,fun y c _ h=>?_,fun _=>hd,Around.frames_deeper e0.frames,.inr ⟨rfl,rfl⟩,fun b z=>absurd z (noA b),e0.bs,e0.bsz,fun b _ _=>noA b,fun b z=>absurd z (noA b),e0.funs,e0.frf⟩,
    rfl,e0.bare,Un.kept hk,⟨_,x.toInCall.ns,fun i y v h1 h2 h3=>?_⟩,fun y c h=>⟨_,x.cell y c h⟩,e0.hok.fresh (Nat.le_refl _),fun y c h=>?_,fun p hp=>absurd (show p∈([]:List (Addr×Obj)) from hp) (by simp),e0.hok.kept hk,?_⟩
  · exact name_of_addr x.apart (PySem.mem_of_lookup h1) (PySem.mem_of_lookup h2)
  · have hy:scope.names.lookup y=some .cell\/scope.names.lookup y=some .free:=hy
    rcases hy with hy | hy
    · exact zpa hy
    · exact absurd rfl (S.nofree _ (PySem.mem_of_lookup hy))
  · exact Nat.le_of_lt (x.above y c (PySem.mem_of_lookup h))
  · have hi:i<vs.length:=by
      unfold start at h2
      by_cases hi:i<vs.length
      · exact hi
      · rw [List.getElem?_append_right (by simpa using hi)] at h2
        rw [List.getElem?_replicate] at h2
        split at h2 <;> cases h2
    have ha:vs[i]? = some v:=by
      unfold start at h2
      rw [List.getElem?_append_left (by simpa using hi),List.getElem?_map] at h2
      cases e:vs[i]? with
      | none=>rw [e] at h2; cases h2
      | some a=>rw [e] at h2; cases h2; rfl
    obtain ⟨u,hu,rv⟩:=r.get ha
    have hp:ps[i]? = some y:=by
      rw [<- S.pre,List.getElem?_take_of_lt (by omega)]; exact h1
    have ndP:ps.Nodup:=by rw [<- S.pre]; exact S.nd.sublist (List.take_sublist _ _)
    refine ⟨u,rv,?_⟩
    rcases S.par y (List.mem_of_getElem? hp) with k | k
    · exact .inl ⟨k,zmq ndP hp hu k⟩
    · obtain ⟨c,e⟩:=zpa (n:=s.heap.objs.size+1) k
      refine .inr ⟨.inl k,c,e,?_⟩
      have q:=x.cell y c e
      rw [zmr ndP hp hu (by show scope.names.lookup y≠_; rw [k]; decide)] at q
      exact q
  · exact e0.hok.fresh (Nat.le_of_lt (x.above y c (PySem.mem_of_lookup h)))
  · unfold start
    show _=N.length
    rw [List.length_append,List.length_map,List.length_replicate]
    omega
theorem fn_of {CX:CXT} {P:Program} {w:World} {K:PySem.W.Frag} {mg:Str->Option Value} {base:Heap} {k:Nat} {f:Addr} {name qual:Str} {params:Arguments} {body:List Stmt} {scope:Scope} {dV kV doc pm cdv ct oc:Value} {an od:Option Addr}
    {osl:Array (Option Value)} {N ps:List Str} {sp:Sp} (lk:K.lookup f=some ⟨oc,od,.func (PySem.W.fnOf name qual params body scope dV kV doc pm an cdv ct),osl⟩) (hcd:PySem.W.codeIn K cdv qual=true) (S:FnScope N ps scope)
    (len:∀ vs H Q E,sp vs H Q E->vs.length=ps.length)
    (hbody:∀ (A:Around) (outer:List Env) (s:Shared) (H:Hp) (vs:List V) (Q:VK) (E:XK),Room k (A.deeper (envOfC qual scope s.heap.objs.size f cdv))->sp vs H Q E ->
      ∃ t,PSs (cxOf CX P w K mg base N qual scope f cdv A outer s H E) body t/\t { nx:=fun _ H'=>Q .non H',rt:=Q } (start N vs) H) :
    FnOk P w K mg base CX (k+1) f (PySem.W.fnOf name qual params body scope dV kV doc pm an cdv ct) ps sp:=by
  refine ⟨len,fun A outer s H args us vs Q E hr e0 hb r hsp=>?_⟩
  have hl:=len _ _ _ _ hsp
  have KX:K.In s.heap:=e0.mod.kin.keeps fun b o e=>(e0.bs b o e).1
  have lim:s.heap.NoLimit:=e0.mod.nolimit.keeps fun b o e=>(e0.bs b o e).1
  have hkind:∀ y∈ps.zip us,scope.names.lookup y.1=some .local\/(scope.names.lookup y.1=some .cell/\((cellsFrom (s.heap.objs.size+1) scope.names []).lookup y.1).isSome=true):=fun ⟨n,v⟩ hy=>by
    rcases S.par n (List.of_mem_zip hy).1 with q | q
    · exact .inl q
    · exact .inr ⟨q,PySem.W.cellsFrom_some _ _ _ (.inl q)⟩
  refine codeAny_call_function hr.depth (KX _ _ lk) rfl S.co S.gen rfl (PySem.W.codeRec_of KX hcd) (hb _ _ _ _ ?_)
  refine wpAny_newFunctionEnv_cells S.kind hkind fun env he s1 x=>?_
  subst he
  refine ⟨lim.keeps x.toInCall.keep,codeAny_func ?_⟩
  obtain ⟨t,ht,hq⟩:=hbody A outer s H vs Q E (hr.deeper _) hsp
  have I:Inv (cxOf CX P w K mg base N qual scope f cdv A outer s H E) [] (start N vs) H s1:=zrg S hr.hd e0 hl r x
  refine wpAny_mono (ht [] s1 (start N vs) H _ I hq) (fun fl s' hs=>?_) fun e s' hs=>hs
  have fin:∀ {σ':St} {H':Hp} {v:V} {u:Value},Inv (cxOf CX P w K mg base N qual scope f cdv A outer s H E) [] σ' H' s'->RelV v u->Q v H'->CE outer P w H s Q u s' :=
    fun {σ' H' v u} J rv q=>⟨v,H',J.os,J.bare,J.base,J.hok,rv,q⟩
  cases fl with
  | ret u =>
    obtain ⟨v,σ',H',J,rv,q⟩:=hs
    exact fin J rv q
  | next =>
    obtain ⟨σ',H',J,q⟩:=hs
    exact fin (v:=V.non) (u:=Value.none) J rfl q
  | brk =>
    obtain ⟨_,_,_,q⟩:=hs
    exact False.elim q
  | cont =>
    obtain ⟨_,_,_,q⟩:=hs
    exact False.elim q
section
variable {X:Cx} {x:Str} {p pos:Pos} {e:Expr} {es:List Expr} {t:TA} {id T:String} {r:List V->Hp->VK->Prop}
def tCB (r:List V->Hp->VK->Prop) (t:TA):TE:=fun σ H Q=>t σ H fun vs H1=>r vs H1 Q
theorem zcq (hc:CallR X (.builtin id) r) (hg:Gl X x) (hm:X.mg x=none) (hv:bootBuiltins x=some (.builtin id)) (ha:PA X (e :: es) t) (hn:x ≠ "__name__" := by decide) (hdb:(x == ("__debug__" : Str))=false:=by decide)
    (he:starEach (e :: es) X.env=(false,eval e X.env) :: starEach es X.env:=by rfl) (hpl:(backTo pos (starEach es X.env)).any (·.1)=false:=by rfl):PE X (.Call (.Name x p) (e :: es) [] pos) (tCB r t):=by
  intro pins s σ H Q I h
  refine wpAny_Call_Name_kw (zow I hg hm hv ?_ hn hdb)
  exact PyProof.Rows.callWith_builtin1 (thn (ha pos pins s σ H _ I h) fun us s1 ⟨vs,H1,I1,r1,q1⟩=>hc pins s1 σ H1 vs us Q I1 r1 q1) he hpl
theorem zrh (hc:CallR X (.type T) r) (hg:Gl X x) (hm:X.mg x=none) (hv:bootBuiltins x=some (.type T)) (ha:PA X (e :: es) t) (hn:x ≠ "__name__" := by decide) (hdb:(x == ("__debug__" : Str))=false:=by decide)
    (he:starEach (e :: es) X.env=(false,eval e X.env) :: starEach es X.env:=by rfl) (hpl:(backTo pos (starEach es X.env)).any (·.1)=false:=by rfl):PE X (.Call (.Name x p) (e :: es) [] pos) (tCB r t):=by
  intro pins s σ H Q I h
  refine wpAny_Call_Name_kw (zow I hg hm hv ?_ hn hdb)
  exact PyProof.Rows.callWith_type1 (thn (ha pos pins s σ H _ I h) fun us s1 ⟨vs,H1,I1,r1,q1⟩=>hc pins s1 σ H1 vs us Q I1 r1 q1) he hpl
end
end L2
namespace HT
open PySem PyProof.Rows
section
open PySem.SeqAt
open PySem.AutoSeq1 (wpAny_loadPart')
open PySem.MeetsSeq PySem.MeetsSeq2 PySem.MeetsSeq3
end
section
variable {prog:Program} {w:World} {A:Around} {E:Value->Shared->Prop} {s:Shared}
def sIx (n d:Nat):Option Int->Nat
 | none=>d
 | some v=>if v<0 then (v+(n:Int)).toNat else min v.toNat n
theorem sIx_nat (n d k:Nat):sIx n d (some (k:Int))=min k n:=by
 show (if (k:Int)<0 then ((k:Int)+(n:Int)).toNat else min (k:Int).toNat n)=min k n
 rw [if_neg (by omega),Int.toNat_natCast]
end
end HT
namespace L2
open PySem PySem.Spec PyProof.Rows
abbrev TO:=St->Hp->(Option Int->Hp->Prop)->Prop
def PO (X:Cx) (e:Option Expr) (t:TO):Prop :=
 ∀ (pins:List (Addr×Obj)) (s:Shared) (σ:St) (H:Hp) (Q:Option Int->Hp->Prop),Inv X pins σ H s->t σ H Q ->
  wpAny (model X.prog X.w) X.A (evalPart e X.env) (fun u s'=>∃ o H',Inv X pins σ H' s'/\IsPart u o/\Q o H') X.xe s
def tNoPart:TO:=fun _ H Q=>Q none H
def tPart (t:TE):TO:=fun σ H Q=>t σ H fun x H1=>∃ i,x = .int i/\Q (some i) H1
theorem zqi {ns:List Int}:∀ {us:List Value},Vals (ns.map V.int) us->IntsAre us ns:=by
 induction ns with
 | nil=>intro us r; rw [List.map_nil] at r; cases r; exact .nil
 | cons n ns ih =>
  intro us r
  rw [List.map_cons] at r
  cases r with
  | cons r1 r2 =>
   obtain ⟨t,e⟩:=r1
   subst e
   exact .cons n t (ih r2)
section
variable {X:Cx} {e:Expr} {te:TE} {lo hi:Option Expr} {tl th:TO} {pos p2:Pos}
theorem zhz (h:PE X e te):PO X (some e) (tPart te):=by
 intro pins s σ H Q I hw
 rw [evalPart_some]
 refine thn (h pins s σ H _ I hw) fun u s1 ⟨x,H1,I1,r1,q1⟩=>?_
 obtain ⟨i,rfl,q⟩:=q1
 obtain ⟨t,rfl⟩:=r1
 exact ⟨some i,H1,I1,.int i t,q⟩
def SlR (X:Cx) (r:V->Option Int->Option Int->Hp->VK->Prop):Prop :=
 ∀ (pins:List (Addr×Obj)) (s:Shared) (σ:St) (H:Hp) (x:V) (v vl vu:Value) (lo hi:Option Int) (sl:Addr) (Q:VK),Inv X pins σ H s->RelV x v->s.heap.IsSliceOf sl vl vu .none->IsPart vl lo->IsPart vu hi->r x lo hi H Q ->
  ∃ T id,typeLookup (.type T) "__getitem__" = pure (some (.builtin id))/\s.TypeIs v T/\wpAny (model X.prog X.w) X.A (getItem v (.ref sl)) (EP X pins σ Q) X.xe s
def tSl (r:V->Option Int->Option Int->Hp->VK->Prop) (te:TE) (tl th:TO):TE:=fun σ H Q=>te σ H fun x H1=>tl σ H1 fun l H2=>th σ H2 fun u H3=>r x l u H3 Q
theorem zlq {r:V->Option Int->Option Int->Hp->VK->Prop} (hr:SlR X r) (he:PE X e te) (hl:PO X lo tl) (hu:PO X hi th):PE X (.Subscript e (.Slice lo hi none p2) pos) (tSl r te tl th):=by
 intro pins s σ H Q I h
 refine Subscript_ (thn (he pins s σ H _ I h) fun v s1 ⟨x,H1,I1,r1,q1⟩=>?_)
 refine wpAny_Slice (thn (hl pins s1 σ H1 _ I1 q1) fun vl s2 ⟨l,H2,I2,pl,q2⟩=>thn (hu pins s2 σ H2 _ I2 q2) fun vu s3 ⟨u,H3,I3,pu,q3⟩=>?_)
 rw [evalPart_none]
 refine wpAny_pure ?_
 have I4:Inv X pins σ H3 { s3 with heap:=s3.heap.push { cls:=.type "slice", data:=.fields #[vl,vu,.none] } }:=I3.kept (t':=s3.toks) fun b ob q=>Heap.get?_push_of_some _ q
 obtain ⟨T,id,hT,ht,hg⟩:=hr pins { s3 with heap:=s3.heap.push { cls:=.type "slice", data:=.fields #[vl,vu,.none] } } σ H3 x v vl vu l u s3.heap.objs.size Q I4 r1 (Heap.IsSliceOf.new ..) pl pu q3
 show wpAny (model X.prog X.w) X.A (subscriptTail e (.Slice lo hi none p2) v (.ref s3.heap.objs.size)) (EP X pins σ Q) X.xe { s3 with heap:=s3.heap.push { cls:=.type "slice", data:=.fields #[vl,vu,.none] } }
 exact tail_any (ops:=[.ref s3.heap.objs.size,v]) ht hT hg (by with_unfolding_all rfl)
def cutV (xs:List V) (lo hi:Option Int):List V:=(xs.drop (HT.sIx xs.length 0 lo)).take (HT.sIx xs.length xs.length hi-HT.sIx xs.length 0 lo)
theorem zoc (xs:List V) (lo hi:Option Int):(cutV xs lo hi).length<=xs.length:=by
 unfold cutV
 rw [List.length_take,List.length_drop]
 omega
end
def ixN (n:Nat) (i:Int):Option Nat:=if 0<=i then (if i<n then some i.toNat else none) else if -(n:Int)<=i then some (i+n).toNat else none
def atI {α:Type} (xs:List α) (i:Int):Option α:=(ixN xs.length i).bind fun j=>xs[j]?
theorem zvy {n:Nat} {i:Int} {j:Nat} (h:ixN n i=some j):seqIndex? i n=some j/\j<n/\-(n:Int)<=i/\i<n:=by
 unfold ixN at h
 by_cases h0:0<=i
 ·rw [if_pos h0] at h
  by_cases h1:i<n
  ·rw [if_pos h1] at h
   have e:i.toNat=j:=Option.some.inj h
   exact ⟨by rw [seqIndex_of h0 h1,e],by omega,by omega,h1⟩
  ·rw [if_neg h1] at h; cases h
 ·rw [if_neg h0] at h
  by_cases h1:-(n:Int)<=i
  ·rw [if_pos h1] at h
   have e:(i+n).toNat=j:=Option.some.inj h
   exact ⟨by rw [seqIndex_neg (by omega) h1,e],by omega,h1,by omega⟩
  ·rw [if_neg h1] at h; cases h
theorem zri {α:Type} {xs:List α} {i:Int} {v:α} (h:atI xs i=some v):∃ j,seqIndex? i xs.length=some j/\xs[j]? = some v/\j<xs.length/\-(xs.length:Int)<=i/\i<xs.length:=by
 unfold atI at h
 cases e:ixN xs.length i with
 | none=>rw [e] at h; cases h
 | some j =>
  rw [e] at h
  obtain ⟨h1,h2,h3,h4⟩:=zvy e
  exact ⟨j,h1,h,h2,h3,h4⟩
theorem zga {α:Type} {xs:List α} {j:Nat} {v:α} (h:xs[j]? = some v):atI xs (j:Int)=some v:=by
 have hj:j<xs.length:=(List.getElem?_eq_some_iff.mp h).1
 have e:ixN xs.length (j:Int)=some j:=by
  unfold ixN
  rw [if_pos (by omega),if_pos (by omega)]; simp
 unfold atI; rw [e]; exact h
def zvz (b:Expr):Prop:=∀ o i,subscripted b false o i=operate [o,i] (getItem o i)
def IxR (X:Cx) (r:R2):Prop :=
 ∀ (value slice:Expr) (pins:List (Addr×Obj)) (s:Shared) (σ:St) (H:Hp) (x y:V) (v u:Value) (Q:VK),Inv X pins σ H s->RelV x v->RelV y u->r x y H Q ->
  subscripted slice false v u=operate [v,u] (getItem v u)->wpAny (model X.prog X.w) X.A (subscriptTail value slice v u) (EP X pins σ Q) X.xe s
def MtR (X:Cx) (id:String) (r:V->List V->Hp->VK->Prop):Prop :=
 ∀ (pins:List (Addr×Obj)) (s:Shared) (σ:St) (H:Hp) (x:V) (xs:List V) (v:Value) (us:List Value) (Q:VK),Inv X pins σ H s->RelV x v->Vals xs us->r x xs H Q ->
  wpAny (model X.prog X.w) X.A (call (.builtin id) (v :: us)) (EP X pins σ Q) X.xe s
section
variable {X:Cx} {a b:Expr} {ta tb:TE} {pos:Pos}
theorem pe_ix {r:R2} (hr:IxR X r) (ha:PE X a ta) (hb:PE X b tb) (hs:zvz b):PE X (.Subscript a b pos) (tOp r ta tb):=by
 intro pins s σ H Q I h
 exact Subscript_ (binT ha hb I h fun v u s2 x y H2 I2 rx ry q=>hr a b pins s2 σ H2 x y v u Q I2 rx ry q (hs _ _))
def rIxL (K:PySem.W.Frag):R2:=fun x y H Q=>∃ p xs i v,x = .ref p/\y = .int i/\SqL K H p xs/\atI xs i=some v/\Q v H
def rIxT (K:PySem.W.Frag):R2:=fun x y H Q=>∃ p xs i v,x = .ref p/\y = .int i/\SqT K H p xs/\atI xs i=some v/\Q v H
theorem zwa:IxR X (rIxL X.K):=by
 intro value slice pins s σ H x y v u Q I rx ry h hs
 obtain ⟨p,xs,i,z,rfl,rfl,hq,he,q⟩:=h
 cases rx
 obtain ⟨t,rfl⟩:=ry
 obtain ⟨its,r,pl,hz⟩:=I.list hq
 obtain ⟨j,h1,h2,h3,h4,h5⟩:=zri he
 obtain ⟨w,ew,rw'⟩:=r.get h2
 have hl:=r.length
 have hn:=zmn
 have fin:EP X pins σ Q w s:=⟨z,H,I,rw',q⟩
 by_cases h0:0<=i
 ·have hj:i.toNat=j:=by
   rw [seqIndex_of h0 h5] at h1
   exact Option.some.inj h1
  exact item_listR pl.isList h0 (by omega) (by rw [hj]; simpa using ew) fin hs
 ·have hj:(i+(its.toArray.size:Int)).toNat=j:=by
   rw [seqIndex_neg (by omega) h4] at h1
   rw [List.size_toArray,<- hl]
   exact Option.some.inj h1
  exact subscriptTail_builtinR (x:=w) pl.isList.typeIs slot_list_getitem.lookup
   (wpAny_getItem_list_neg (Q:=fun r s'=>r=w/\EP X pins σ Q r s') pl.isList (by omega) (by rw [List.size_toArray] <;> omega) (by omega) (by rw [hj]; simpa using ew) ⟨rfl,fin⟩) hs
theorem zyi:IxR X (rIxT X.K):=by
 intro value slice pins s σ H x y v u Q I rx ry h hs
 obtain ⟨p,xs,i,z,rfl,rfl,hq,he,q⟩:=h
 cases rx
 obtain ⟨t,rfl⟩:=ry
 obtain ⟨its,r,pl,hz⟩:=I.tuple hq
 obtain ⟨j,h1,h2,h3,h4,h5⟩:=zri he
 obtain ⟨w,ew,rw'⟩:=r.get h2
 have hl:=r.length
 have hn:=zmn
 have fin:EP X pins σ Q w s:=⟨z,H,I,rw',q⟩
 exact subscriptTail_builtinR (x:=w) pl.typeIs slot_tuple_getitem.lookup
  (getItem_tuple (j:=j) (Q:=fun r s'=>r=w/\EP X pins σ Q r s') pl (by omega) (by omega) (by rw [List.size_toArray,<- hl]; exact h1) (by simpa using ew) ⟨rfl,fin⟩) hs
theorem zms (lo hi:Option Int) (n:Nat):(sliceBounds lo hi none n).1=((HT.sIx n 0 lo:Nat):Int)/\(sliceBounds lo hi none n).2.1=((HT.sIx n n hi:Nat):Int)/\(sliceBounds lo hi none n).2.2 = 1:=by
 refine ⟨?_,?_,rfl⟩
 ·cases lo with
  | none=>simp [sliceBounds,HT.sIx]
  | some i =>
   simp only [sliceBounds,HT.sIx,Option.getD_none,show (1:Int) > 0 by decide,if_true]
   by_cases h:i<0
   ·simp only [h,if_true] <;> omega
   ·simp only [h,if_false] <;> omega
 ·cases hi with
  | none=>simp [sliceBounds,HT.sIx]
  | some i =>
   simp only [sliceBounds,HT.sIx,Option.getD_none,show (1:Int) > 0 by decide,if_true]
   by_cases h:i<0
   ·simp only [h,if_true] <;> omega
   ·simp only [h,if_false] <;> omega
theorem zlr (its:List Value) (lo hi:Option Int):slicePick its.toArray lo hi none=((its.drop (HT.sIx its.length 0 lo)).take (HT.sIx its.length its.length hi-HT.sIx its.length 0 lo)).toArray:=by
 obtain ⟨h1,h2,h3⟩:=zms lo hi its.toArray.size
 unfold slicePick
 rw [h1,h2,h3]
 simp only [sliceRange_one,pick_run,List.size_toArray] <;> rfl
def rSlL (K:PySem.W.Frag):V->Option Int->Option Int->Hp->VK->Prop:=fun x lo hi H Q=>∃ a xs,x = .ref a/\SqL K H a xs/\∀ p,H p=none->Q (.ref p) (upd H p (.lst (cutV xs lo hi)))
theorem zwb:SlR X (rSlL X.K):=by
 intro pins s σ H x v vl vu lo hi sl Q I rx hs pl pu h
 obtain ⟨a,xs,rfl,hx,q⟩:=h
 cases rx
 obtain ⟨its,r,ht,hz⟩:=I.list hx
 have hlen:=r.length
 refine ⟨"list", _,slot_list_getitem.lookup,ht.isList.typeIs,?_⟩
 refine wpAny_getItem_list_slice ht.isList hs pl pu .none (by simp) ?_ (by rw [List.size_toArray] <;> omega)
 rw [zlr,<- hlen]
 refine ⟨.ref s.heap.objs.size,_,I.laid (t':=s.toks) (o:=.lst (cutV xs lo hi)) (fun b ob q=>Heap.get?_push_of_some _ q) (Nat.le_refl _) ?_,rfl,q _ (I.hok.fresh (Nat.le_refl _))⟩
 exact ⟨Nat.le_trans (zoc xs lo hi) hz,_,0,(r.drop (HT.sIx xs.length 0 lo)).take (HT.sIx xs.length xs.length hi-HT.sIx xs.length 0 lo),Heap.get?_push_size _ rfl⟩
def flatV:V->Bool
 | .non=>true
 | .bl _=>true
 | .int _=>true
 | .str _=>true
 | _=>false
def eqV:V->V->Bool
 | .non,.non=>true
 | .bl a,.bl b=>a == b
 | .bl a,.int b=>(if a then 1 else 0) == b
 | .int a,.bl b=>a == (if b then 1 else 0)
 | .int a,.int b=>a == b
 | .str a,.str b=>a == b
 | _,_=>false
theorem zyj {A:Around} {s:Shared} {y x:V} {u v:Value} (ry:RelV y u) (rx:RelV x v) (fy:flatV y=true) (fx:flatV x=true):SeqAt.EqAt A s u v (eqV y x):=by
 cases y with
 | non =>
  cases ry
  cases x with
  | non=>cases rx; exact SeqAt.EqAt.same _
  | bl b=>cases rx; exact SeqAt.EqAt.none_bool b
  | int b=>obtain ⟨t,rfl⟩:=rx; exact SeqAt.EqAt.none_int b t
  | str b=>obtain ⟨t,rfl⟩:=rx; exact SeqAt.EqAt.none_str b t
  | _=>exact absurd (show false=true from fx) Bool.false_ne_true
 | bl a =>
  cases ry
  cases x with
  | non=>cases rx; exact SeqAt.EqAt.bool_none a
  | bl b=>cases rx; exact SeqAt.EqAt.bool_bool a b
  | int b=>obtain ⟨t,rfl⟩:=rx; exact SeqAt.EqAt.bool_int a b t
  | str b=>obtain ⟨t,rfl⟩:=rx; exact SeqAt.EqAt.bool_str a b t
  | _=>exact absurd (show false=true from fx) Bool.false_ne_true
 | int a =>
  obtain ⟨t',rfl⟩:=ry
  cases x with
  | non=>cases rx; exact SeqAt.EqAt.int_none a t'
  | bl b=>cases rx; exact SeqAt.EqAt.int_bool a t' b
  | int b=>obtain ⟨t,rfl⟩:=rx; exact SeqAt.EqAt.int_int a t' b t
  | str b=>obtain ⟨t,rfl⟩:=rx; exact SeqAt.EqAt.int_str a t' b t
  | _=>exact absurd (show false=true from fx) Bool.false_ne_true
 | str a =>
  obtain ⟨t',rfl⟩:=ry
  cases x with
  | non=>cases rx; exact SeqAt.EqAt.str_none a t'
  | bl b=>cases rx; exact SeqAt.EqAt.str_bool a t' b
  | int b=>obtain ⟨t,rfl⟩:=rx; exact SeqAt.EqAt.str_int a t' b t
  | str b=>obtain ⟨t,rfl⟩:=rx; exact SeqAt.EqAt.str_str a t' b t
  | _=>exact absurd (show false=true from fx) Bool.false_ne_true
 | _=>exact absurd (show false=true from fy) Bool.false_ne_true
def eqU (x:V) (u:Value):Bool:=match u with
 | .none=>eqV .non x
 | .bool b=>eqV (.bl b) x
 | .int i _=>eqV (.int i) x
 | .str z _=>eqV (.str z) x
 | _=>false
theorem zvb {x y:V} {u:Value} (r:RelV y u) (f:flatV y=true):eqU x u=eqV y x:=by
 cases y with
 | non=>cases r; rfl
 | bl b=>cases r; rfl
 | int i=>obtain ⟨t,rfl⟩:=r; rfl
 | str z=>obtain ⟨t,rfl⟩:=r; rfl
 | _=>exact absurd (show false=true from f) Bool.false_ne_true
theorem zjn {x:V}:∀ {xs:List V} {us:List Value},Vals xs us->xs.all flatV=true->us.any (eqU x)=xs.any fun y=>eqV y x
 | _,_,.nil,_=>rfl
 | y :: xs,u :: us,.cons r t,f=>by
  rw [List.all_cons,Bool.and_eq_true] at f
  rw [List.any_cons,List.any_cons,zvb r f.1,zjn t f.2]
theorem zgz {A:Around} {s:Shared} {x:V} {v:Value} (rx:RelV x v) (fx:flatV x=true):∀ {xs:List V} {us:List Value},Vals xs us->xs.all flatV=true->∀ u∈us,SeqAt.EqAt A s u v (eqU x u)
 | _,_,.nil,_=>fun u hu=>by cases hu
 | y :: xs,u :: us,.cons r t,f=>fun u' hu=>by
  rw [List.all_cons,Bool.and_eq_true] at f
  rcases List.mem_cons.mp hu with rfl | hu
  ·rw [zvb r f.1]; exact zyj r rx f.1 fx
  ·exact zgz rx fx t f.2 u' hu
def inV (x:V) (xs:List V):Bool:=xs.any fun y=>eqV y x
def rIn (K:PySem.W.Frag) (neg:Bool):R2:=fun x y H Q=>∃ p xs,y = .ref p/\(SqL K H p xs\/SqT K H p xs)/\flatV x=true/\xs.all flatV=true/\Q (.bl (if neg then !inV x xs else inV x xs)) H
theorem zrj:OpR X (compareOp .In) (rIn X.K false):=by
 intro pins s σ H x y v u Q I rx ry h
 obtain ⟨p,xs,rfl,hq,fx,fs,q⟩:=h
 cases ry
 rcases hq with hq | hq
 ·obtain ⟨its,r,pl,hz⟩:=I.list hq
  refine SeqAt.in_listAt (eqU x) pl.isList (fun w hw=>zgz rx fx r fs w (by simpa using hw)) ⟨.bl _,H,I,rfl,?_⟩
  rw [show its.toArray.any (eqU x)=its.any (eqU x) by simp,zjn r fs]
  exact q
 ·obtain ⟨its,r,pl,hz⟩:=I.tuple hq
  refine SeqAt.in_tupleAt (eqU x) pl (fun w hw=>zgz rx fx r fs w (by simpa using hw)) ⟨.bl _,H,I,rfl,?_⟩
  rw [show its.toArray.any (eqU x)=its.any (eqU x) by simp,zjn r fs]
  exact q
theorem zmt:OpR X (compareOp .NotIn) (rIn X.K true):=by
 intro pins s σ H x y v u Q I rx ry h
 obtain ⟨p,xs,rfl,hq,fx,fs,q⟩:=h
 cases ry
 rcases hq with hq | hq
 ·obtain ⟨its,r,pl,hz⟩:=I.list hq
  refine SeqAt.notIn_listAt (eqU x) pl.isList (fun w hw=>zgz rx fx r fs w (by simpa using hw)) ⟨.bl _,H,I,rfl,?_⟩
  rw [show its.toArray.any (eqU x)=its.any (eqU x) by simp,zjn r fs]
  exact q
 ·obtain ⟨its,r,pl,hz⟩:=I.tuple hq
  refine SeqAt.notIn_tupleAt (eqU x) pl (fun w hw=>zgz rx fx r fs w (by simpa using hw)) ⟨.bl _,H,I,rfl,?_⟩
  rw [show its.toArray.any (eqU x)=its.any (eqU x) by simp,zjn r fs]
  exact q
theorem zmu:CallR X (.builtin "len") (fun xs H Q=>∃ p ys,xs = [.ref p]/\(SqL X.K H p ys\/SqT X.K H p ys)/\Q (.int ys.length) H):=by
 intro pins s σ H xs us Q I r h
 obtain ⟨p,ys,rfl,hq,q⟩:=h
 obtain ⟨u,rfl,rx⟩:=vals1 r
 cases rx
 have hn:=zmn
 rcases hq with hq | hq
 ·obtain ⟨its,r',pl,hz⟩:=I.list hq
  have hlen:=r'.length
  exact Calls.call_len_list pl.isList (by simp only [List.size_toArray] <;> omega) ⟨.int ys.length,H,I.tok _,⟨s.toks+1,by rw [List.size_toArray,hlen]⟩,q⟩
 ·obtain ⟨its,r',pl,hz⟩:=I.tuple hq
  have hlen:=r'.length
  exact len_tuple pl (by simp only [List.size_toArray] <;> omega) ⟨.int ys.length,H,I.tok _,⟨s.toks+1,by rw [List.size_toArray,hlen]⟩,q⟩
theorem zmv:CallR X (.builtin "len") (fun xs H Q=>∃ z,xs = [.str z]/\z.length<=sizeLine/\Q (.int z.length) H):=by
 intro pins s σ H xs us Q I r h
 obtain ⟨z,rfl,hz,q⟩:=h
 obtain ⟨u,rfl,t,rfl⟩:=vals1 r
 have hn:=zmn
 exact len_str (by omega) ⟨.int z.length,H,I.tok _,⟨_,rfl⟩,q⟩
def tyV (K:PySem.W.Frag) (T:String) (x:V) (H:Hp):Prop:=match x with
  | .str _=>T = "str"
  | .int _=>T = "int"
  | .ref p=>(T = "list" /\ ∃ xs,SqL K H p xs)\/(T = "tuple" /\ ∃ o,K.lookup p=some o/\o.cls = .type "tuple" /\ o.dict=none) \/
      (T = "dict" /\ ((∃ kvs,H p=some (.dK kvs))\/∃ kvs,H p=some (.dT kvs)))\/(T = "set" /\ ∃ S n,H p=some (.set S n))
  | _=>False
theorem zvc {pins:List (Addr×Obj)} {σ:St} {H:Hp} {s:Shared} {T:String} {x:V} {v:Value} (I:Inv X pins σ H s) (r:RelV x v) (ty:tyV X.K T x H) :
    s.TypeIs v T/\∀ a,v = .ref a->∃ ob,s.heap.get? a=some ob/\ob.dict=none:=by
  cases x with
  | str z =>
    obtain ⟨t,rfl⟩:=r
    cases (show T = "str" from ty)
    exact ⟨typeIs_str s z t,fun _ e=>nomatch e⟩
  | int i =>
    obtain ⟨t,rfl⟩:=r
    cases (show T = "int" from ty)
    exact ⟨typeIs_int s i t,fun _ e=>nomatch e⟩
  | ref p =>
    cases r
    rcases ty with ⟨rfl,xs,hq⟩ | ⟨rfl,o,hk,hc,hd⟩ | ⟨rfl,hk⟩ | ⟨rfl,S,n,hk⟩
    · obtain ⟨its,_,pl,_⟩:=I.list hq
      refine ⟨pl.isList.typeIs,fun a e=>?_⟩
      cases e
      obtain ⟨o,n,e,c,hd,_⟩:=pl
      exact ⟨o,e,hd⟩
    · refine ⟨⟨o,I.kIn p o hk,hc⟩,fun a e=>?_⟩
      cases e
      exact ⟨o,I.kIn _ o hk,hd⟩
    · have z:∃ o,s.heap.get? p=some o/\o.ExactDict:=by
        rcases hk with ⟨kvs,hk⟩ | ⟨kvs,hk⟩
        · obtain ⟨_,_,_,_,o,_,_,e,ex,_⟩:=I.hok p _ hk
          exact ⟨o,e,ex⟩
        · obtain ⟨_,_,_,_,o,_,_,e,ex,_⟩:=I.hok p _ hk
          exact ⟨o,e,ex⟩
      obtain ⟨o,e,ex⟩:=z
      refine ⟨⟨o,e,ex.1⟩,fun a e2=>?_⟩
      cases e2
      exact ⟨o,e,ex.2.1⟩
    · obtain ⟨o,_,_,_,e,ex,_⟩:=I.hok p _ hk
      refine ⟨⟨o,e,ex.1⟩,fun a e2=>?_⟩
      cases e2
      exact ⟨o,e,ex.2.1⟩
  | _=>exact False.elim ty
def tBM0 (K:PySem.W.Frag) (T:String) (r:V->List V->Hp->VK->Prop) (to:TE):TE:=fun σ H Q=>to σ H fun x H1=>tyV K T x H1/\r x [] H1 Q
def tBM (K:PySem.W.Frag) (T:String) (r:V->List V->Hp->VK->Prop) (to:TE) (t:TA):TE:=fun σ H Q=>to σ H fun x H1=>tyV K T x H1/\t σ H1 fun xs H2=>r x xs H2 Q
variable {o e:Expr} {es:List Expr} {to:TE} {t:TA} {name:Str} {apos cpos:Pos} {T id:String} {r:V->List V->Hp->VK->Prop}
theorem zyk (pa:PlainAttrs T) (slot:Slot T name id) (hty:typeOf (.builtin id)=pure (.type "method_descriptor")) (hm:MtR X id r) (ho:PE X o to)
    (hbase:attributeBase o name X.env (eval o X.env)=eval o X.env:=by rfl) (hline:(apos.endLine == cpos.line)=true:=by rfl):PE X (.Call (.Attribute o name apos) [] [] cpos) (tBM0 X.K T r to):=by
  intro pins s σ H Q I h
  refine wpAny_Call_method0_late hbase hline (thn (ho pins s σ H _ I h) fun v s1 ⟨x,H1,I1,r1,ty,q1⟩=>?_)
  obtain ⟨h1,h2⟩:=zvc I1 r1 ty
  exact ⟨T,id,pa,slot,hty,h1,h2,Calls.callWith_builtin rfl (PySem.evalArgs_none (hm pins s1 σ H1 x [] v [] Q I1 r1 .nil q1))⟩
theorem pe_bm (pa:PlainAttrs T) (slot:Slot T name id) (hty:typeOf (.builtin id)=pure (.type "method_descriptor")) (hm:MtR X id r) (ho:PE X o to) (ha:PA X (e :: es) t)
    (hbase:attributeBase o name X.env (eval o X.env)=eval o X.env:=by rfl)
    (hfew:((backTo cpos (starEach (e :: es) X.env)).all (fun x=>!x.1) && (backToKw cpos (keywordEach [] X.env)).all (fun x=>x.1.isSome)
      && decide ((e :: es).length+([]:List Keyword).length+(if ([]:List Keyword).isEmpty then 0 else 1)<30))=true:=by rfl)
    (hline:(apos.endLine == cpos.line)=true:=by rfl) (hs:starEach (e :: es) X.env=(false,eval e X.env) :: starEach es X.env:=by rfl) (hplain:(backTo cpos (starEach es X.env)).any (·.1)=false:=by rfl) :
    PE X (.Call (.Attribute o name apos) (e :: es) [] cpos) (tBM X.K T r to t):=by
  intro pins s σ H Q I h
  refine wpAny_Call_method_late hbase hfew hline rfl (thn (ho pins s σ H _ I h) fun v s1 ⟨x,H1,I1,r1,ty,q1⟩=>?_)
  obtain ⟨h1,h2⟩:=zvc I1 r1 ty
  refine ⟨T,id,pa,slot,hty,h1,h2,?_⟩
  have hA:=ha cpos pins s1 σ H1 _ I1 q1
  rw [hs] at hA ⊢
  refine Calls.callWith_builtin (by show (false || (backTo cpos (starEach es X.env)).any (·.1))=false; rw [hplain] <;> rfl) (Calls.evalArgs_plain ?_)
  exact thn hA fun us s2 ⟨vs,H2,I2,r2,q2⟩=>hm pins s2 σ H2 x vs v us Q I2 r1 r2 q2
end
def MtM (X:Cx) (id:String) (r:V->List V->Hp->VK->Prop):Prop :=
 ∀ (pins:List (Addr×Obj)) (s:Shared) (σ:St) (H:Hp) (x:V) (xs:List V) (v:Value) (us:List Value) (Q:VK),Inv X pins σ H s->RelV x v->Vals xs us->r x xs H Q ->
  wpAny (model X.prog X.w) X.A (call (.builtin id) (v :: us)) (EP X pins σ Q) X.xe s
theorem Vals.one:∀ {x:V} {us:List Value},Vals [x] us->∃ u,us = [u]/\RelV x u
 | _,_,.cons r .nil=>⟨_,rfl,r⟩
theorem Vals.zero:∀ {us:List Value},Vals [] us->us = []
 | _,.nil=>rfl
theorem Vals.eraseIdx:∀ {xs:List V} {us:List Value} (i:Nat),Vals xs us->Vals (xs.eraseIdx i) (us.eraseIdx i)
 | _,_,_,.nil=>.nil
 | _,_,0,.cons _ t=>t
 | _,_,i+1,.cons r t=>.cons r (Vals.eraseIdx i t)
theorem Vals.reverse {xs:List V} {us:List Value} (h:Vals xs us):Vals xs.reverse us.reverse:=by
 induction h with
 | nil=>exact .nil
 | cons r t ih=>rw [List.reverse_cons,List.reverse_cons]; exact Vals.append ih (.cons r .nil)
theorem zmw {α:Type}:∀ (l:List α) (i:Nat),(l.eraseIdx i).length<=l.length
 | [],_=>Nat.le_refl _
 | _ :: _,0=>Nat.le_succ _
 | _ :: r,i+1=>Nat.succ_le_succ (zmw r i)
section
variable {X:Cx} {pins:List (Addr×Obj)} {σ:St} {H:Hp} {s:Shared} {l b:Addr} {xs ys zs:List V}
theorem Inv.lset {its its':List Value} {n:Nat} {f:Array Value->Array Value} {t':Nat} (I:Inv X pins σ H s) (hH:H l=some (.lst xs))
    (e:s.heap.get? l=some { cls:=.type "list", data:=.seq its.toArray n }) (hf:f its.toArray=its'.toArray) (hv:Vals ys its') (hz:ys.length<=sizeLine) :
    Inv X pins σ (upd H l (.lst ys)) { s with heap:=s.heap.update l (Obj.mapSeq f),toks:=t' }:=by
  have q:=PySem.IsL.update e f
  rw [hf] at q
  refine I.write (x:=l) (e:=l) (by rw [hH]; exact trivial) (.inl rfl) (fun b' u hb hu=>(Heap.get?_update_other s.heap (Obj.mapSeq f) (Ne.symm hb)).trans hu) ⟨_,q⟩ ?_
  exact ⟨hz,its',_,hv,q⟩
theorem Inv.fresh (I:Inv X pins σ H s):H s.heap.objs.size=none:=I.hok.fresh (Nat.le_refl _)
theorem Inv.lstM (I:Inv X pins σ H s) (hH:H l=some (.lst xs)):xs.length<=sizeLine/\∃ (its:List Value) (n:Nat),Vals xs its/\xs.length=its.length/\s.heap.get? l=some { cls:=.type "list", data:=.seq its.toArray n }:=by
 obtain ⟨z,its,n,r,e⟩:=I.hok l _ hH
 exact ⟨z,its,n,r,r.length,e⟩
end
section
variable {X:Cx}
def zrk:V->List V->Hp->VK->Prop:=fun x vs H Q=>∃ l xs y,x = .ref l/\vs = [y]/\H l=some (.lst xs)/\xs.length<sizeLine/\Q .non (upd H l (.lst (xs++[y])))
theorem zdo:MtM X "list.append" zrk:=by
 intro pins s σ H x vs v us Q I rx rv h
 obtain ⟨l,xs,y,rfl,rfl,hH,hz,q⟩:=h
 cases rx
 obtain ⟨u,rfl,ru⟩:=rv.one
 obtain ⟨z,its,n,r,hl,e⟩:=I.lstM hH
 refine call_meets F.slot_list_append ⟨_,e,rfl⟩ F.entry_list_append (F.args_list_append_2 _ _) (PySem.list_append l its.toArray n u (by rw [List.size_toArray]; omega)) ⟨e,?_⟩
 refine ⟨.non,_,I.lset (its':=its++[u]) hH e (by simp) (r.append (.cons ru .nil)) ?_,rfl,q⟩
 rw [List.length_append,List.length_singleton]
 omega
def zyl:V->List V->Hp->VK->Prop:=fun x vs H Q=>∃ l xs i k y,x = .ref l/\vs = [.int i]/\H l=some (.lst xs)/\-(2 ^ 63)<=i/\i<2 ^ 63/\seqIndex? i xs.length=some k/\xs[k]? = some y/\Q y (upd H l (.lst (xs.eraseIdx k)))
theorem zts:MtM X "list.pop" zyl:=by
 intro pins s σ H x vs v us Q I rx rv h
 obtain ⟨l,xs,i,k,y,rfl,rfl,hH,h1,h2,hk,hy,q⟩:=h
 cases rx
 obtain ⟨u,rfl,ru⟩:=rv.one
 obtain ⟨t,rfl⟩:=ru
 obtain ⟨z,its,n,r,hl,e⟩:=I.lstM hH
 obtain ⟨w,hw,rw'⟩:=r.get hy
 refine call_meets F.slot_list_pop ⟨_,e,rfl⟩ F.entry_list_pop (F.args_list_pop_2 _ _)
  (MeetsSeq.list_pop_at l its.toArray n i t k w (fitsIndex_both h1 h2) (by rw [List.size_toArray,<- hl]; exact hk) (by rw [<- Array.getElem?_toList]; exact hw) (by rw [List.size_toArray]; omega)) ⟨e,?_⟩
 refine ⟨y,_,I.lset (its':=its.eraseIdx k) hH e ?_ (r.eraseIdx k) ?_,rw',q⟩
 ·show its.toArray.eraseIdxIfInBounds k=(its.eraseIdx k).toArray
  rw [List.eraseIdxIfInBounds_toArray]
 ·have:=zmw xs k
  omega
def ztt:V->List V->Hp->VK->Prop:=fun x vs H Q=>∃ l xs,x = .ref l/\vs = []/\H l=some (.lst xs)/\Q .non (upd H l (.lst xs.reverse))
theorem zqj:MtM X "list.reverse" ztt:=by
 intro pins s σ H x vs v us Q I rx rv h
 obtain ⟨l,xs,rfl,rfl,hH,q⟩:=h
 cases rx
 have hus:=rv.zero
 subst hus
 obtain ⟨z,its,n,r,hl,e⟩:=I.lstM hH
 refine call_meets F.slot_list_reverse ⟨_,e,rfl⟩ F.entry_list_reverse (F.args_list_reverse_1 _) (AutoSeq1.list_reverse_list_0 l its.toArray n (by rw [List.size_toArray]; omega)) ⟨e,?_⟩
 refine ⟨.non,_,I.lset (its':=its.reverse) hH e (by simp) r.reverse ?_,rfl,q⟩
 rw [List.length_reverse]
 omega
end
section
variable {prog:Program} {w:World} {A:Around} {E:Value->Shared->Prop} {s:Shared}
end
section
variable {X:Cx}
end
end L2
namespace Att
open PySem PySem.W PySem.Calls PyProof.Rows
theorem zjo {P:Params} {h:Heap}:∀ (ns:List Int) (vs:List Value),WellAll P h vs (ns.map WData.int)->IntsAre vs ns:=by
 intro ns
 induction ns with
 | nil =>
  intro vs w
  rw [List.map_nil] at w
  cases w
  exact .nil
 | cons n ns ih =>
  intro vs w
  rw [List.map_cons] at w
  cases w with
  | cons a b =>
   cases a
   exact .cons _ _ (ih _ b)
theorem zrl {l:OpenLaw} {n:Nat} (hn:l.most=some n) {P:Params} {h:Heap} {args:List WData} {vals:List Value}
    (hpre:l.row.toRowW.claim.pre args=true) (hwl:WellAll P h vals args) :
    ∃ a vs ns,vals = [Value.ref a]/\args = [WData.list (ns.map WData.int)]/\h.get? a=some { cls:=.type "list", data:=.seq vs.toArray }/\IntsAre vs ns/\ns.length<=n:=by
  have hsh:WShape.hasAll [] args [.list .int] = true:=(pre_splitW hpre).1
  have hc:l.pre.holds [] { args:=args } = true:=(pre_splitW hpre).2
  obtain ⟨d,r,rfl,h1,h2⟩:=hasAllW_cons hsh
  obtain rfl:=hasAllW_nil h2
  obtain ⟨xs,rfl,h3⟩:=hasW_list h1
  obtain ⟨ns,rfl⟩:=items_int h3
  have hlen:ns.length<=n:=by
    unfold OpenLaw.pre at hc
    have h4:(WTm.not (.lt (.lit (.int (n:Int))) (.len (.arg 0)))).holds [] { args:=[.list (ns.map .int)] } = true:=by
      have h4:=(holds_andW hc).1
      rw [hn] at h4
      exact h4
    have h5:=condW_of h4 (w_not (w_lt w_lit (w_len_list (w_arg rfl))))
    rw [List.length_map] at h5
    refine Nat.le_of_not_lt fun q=>?_
    have q':(n:Int)<((ns.length:Nat):Int):=by omega
    first
      | (rw [decide_eq_true q'] at h5; exact absurd h5 (by decide))
      | (simp at h5; omega)
  cases hwl with
  | cons w1 w2 =>
    cases w2
    cases w1 with
    | list ho hall=>exact ⟨_,_,ns,rfl,rfl,ho,zjo ns _ hall,hlen⟩
theorem zrm (l:OpenLaw) (args:List WData):l.row.toRowW.claim.post args (.bool true) args=true :=
 postW_of (r:=l.row.toRowW) (X:=(true == true))
  (show WShape.has [] (.bool true) .bool=true by first | rfl | decide | simp [WShape.has,WShape.arms,WShape.armsAll])
  (show (WTm.eq .res (.lit (.bool true))).value [] { args:=args,res:=some (.bool true),after:=args } = some (.bool (true == true)) from w_eq_bool (w_res rfl) w_lit) rfl
theorem attach_call {l:OpenLaw} {n:Nat} {q:Program} {loose:List Str} {XP:(Str->Option Value)->Heap->Prop} {YP:World->Heap->Prop} {d:DefRec}
    (hn:l.most=some n) (hdf:d.params.defaults = [])
    (call:∀ (w:World) (s₀ s₁:Shared) (mg mb:Str->Option Value) (fa:Addr) (o:Obj) (pm cd doc:Value) (a:Addr) (vs:List Value) (ns:List Int),
      Ground q loose [] XP w s₀ mg mb s₁.heap->YP w s₁.heap ->
      s₁.heap.get? fa=some o->o.data = .func (docDef d.name d.params d.body d.scope pm cd doc)->s₁.heap.CodeRec cd d.name->mg d.name=some (.ref fa) ->
      s₁.heap.get? a=some { cls:=.type "list", data:=.seq vs.toArray }->IntsAre vs ns->ns.length<=n->s₁.gens = #[] ->
      codeAny (model l.prog w) callerA (.call (.ref fa) ⟨[.ref a],[]⟩) (fun r s'=>r = .ok (.ret (.bool true))/\OldK s₁.heap s'.heap/\s'.os=s₁.os/\AllBare s'.gens) s₁) :
    WalkO q loose XP YP l.row.toRowW d [] (fun f vs=>PySem.call f vs):=by
  intro w s₀ s₁ mg mb G Y fa o pm cd doc dV kV ho hd hcd hD hmg hg args vals as hpre hlay hrd hwl hlo
  obtain rfl:dV = .none:=Dflts.none hD hdf
  obtain rfl:kV = .none:=Dflts.noKw hD
  obtain ⟨a,vs,ns,rfl,rfl,hobj,hints,hlen⟩:=zrl hn hpre hwl
  refine enter_call (codeAny_mono (call w s₀ s₁ mg mb fa o pm cd doc a vs ns G Y ho (fd_plain hd) hcd hmg hobj hints hlen hg) fun r s' hq=>?_)
  obtain ⟨rfl,h2,h3,h4⟩:=hq
  exact ⟨.inl ⟨.bool true,.bool true,[],rfl,fun _=>rfl,.bool true,zrm l _,fun _=>⟨List.Pairwise.nil,fun _ hm=>(nomatch hm)⟩⟩,h2,h3,h4⟩
section
variable {prog:Program} {w:World} {A:Around} {E:Value->Shared->Prop} {s:Shared} {K:Frag}
end
end Att
namespace L2
open PySem PySem.Spec PyProof.Rows
theorem zmx:∀ {vs:List Value} {ns:List Int},IntsAre vs ns->Vals (ns.map V.int) vs
 | _,_,.nil=>.nil
 | _,_,.cons n t h=>.cons ⟨t,rfl⟩ (zmx h)
def Only (H:Hp):Prop:=∀ b,H b=none\/∃ o xs,H b=some (.frz o (.lst xs))
theorem law_call {P:Program} {w:World} {K:PySem.W.Frag} {mg mb:Str->Option Value} {CX:CXT} {k:Nat} {fa a:Addr} {fd:FuncData} {x:Str} {sp:Sp} {s₁:Shared} {vs:List Value} {ns:List Int}
    (KX:K.In s₁.heap) (hns:s₁.heap.Ns mainGlobals mg) (hb:s₁.heap.Ns builtinsNs mb) (hbb:∀ x:Str,x ≠ "__name__" -> mb x=bootBuiltins x) (hlim:s₁.heap.NoLimit) (hg:s₁.gens = #[])
    (ha:s₁.heap.get? a=some { cls:=.type "list", data:=.seq vs.toArray }) (hi:IntsAre vs ns) (hl:ns.length<=sizeLine) (hr:Room k callerA)
    (F:∀ base:Heap,K.In base->base.Ns mainGlobals mg->FnOk P w K mg base CX k fa fd [x] sp) (hbind:∀ (s:Shared) (u:Value),BindsTo s fd ⟨[u],[]⟩ [(x,u)])
    (hsp:∀ H:Hp,Only H->SqL K H a (ns.map V.int)->sp [.ref a] H (fun v _=>v = .bl true) fun _ _ _=>False)
    (hCX:∀ H e s',CX [] H s₁ (fun _ _ _=>False) e s'->False) :
    codeAny (model P w) callerA (.call (.ref fa) ⟨[.ref a],[]⟩) (fun r s'=>r = .ok (.ret (.bool true))/\OldK s₁.heap s'.heap/\s'.os=s₁.os/\AllBare s'.gens) s₁:=by
  have rv:=zmx hi
  have lenV:=hi.length
  have core:∀ H:Hp,Only H->SqL K H a (ns.map V.int)->HOk P w H s₁.heap->(∀ b,H b≠none->b=a)->(H a≠none->K.lookup a=none) ->
      codeAny (model P w) callerA (.call (.ref fa) ⟨[.ref a],[]⟩) (fun r s'=>r = .ok (.ret (.bool true))/\OldK s₁.heap s'.heap/\s'.os=s₁.os/\AllBare s'.gens) s₁:=by
    intro H hO hS hok hA hK
    have base_of:∀ {b:Addr} {o:Obj},s₁.heap.get? b=some o->H b=none->(hidT s₁.heap H).get? b=some o:=fun e n=>ztm e n
    have noA:∀ {b:Addr} {o:Obj} {es:Array DictEntry} {ep:Nat},s₁.heap.get? b=some o->o.data = .dict es ep->H b=none:=fun {b o es ep} e d=>by
      cases q:H b with
      | none=>rfl
      | some u =>
        have e':b=a:=hA b (by rw [q]; simp)
        subst e'
        rw [ha] at e; cases e
        have d':Data.seq vs.toArray _=Data.dict es ep:=d
        cases d'
    have nsK:∀ {b:Addr} {m:Str->Option Value},s₁.heap.Ns b m->(hidT s₁.heap H).Ns b m:=fun {b m} ⟨o,es,ep,e,d,r⟩=>⟨o,es,ep,base_of e (noA e d),d,r⟩
    have hKb:K.In (hidT s₁.heap H):=fun b o e=>base_of (KX b o e) (by
      cases q:H b with
      | none=>rfl
      | some u =>
        have e':b=a:=hA b (by rw [q]; simp)
        subst e'
        rw [hK (by rw [q]; simp)] at e; cases e)
    have hM:Mod K mg (hidT s₁.heap H):=⟨hKb,nsK hns,⟨mb,nsK hb,hbb⟩,let ⟨mc,h1,h2⟩:=hlim; ⟨mc,nsK h1,h2⟩⟩
    have e0:Env0 P w K mg (hidT s₁.heap H) callerA [] s₁ H:=⟨rfl,hM,fun b o e=>zvs e,Nat.le_of_eq (zqx _ _),trivial,fun b hb=>absurd (show b∈([]:List Addr) from hb) (by simp),hok,.of_eq hg⟩
    refine codeAny_mono ((F _ hKb (nsK hns)).run callerA [] s₁ H ⟨[.ref a],[]⟩ [.ref a] [.ref a] _ _ hr e0 (hbind s₁ (.ref a)) (.cons rfl .nil) (hsp H hO hS)) fun r s' h=>?_
    cases r with
    | error e=>exact (hCX H e s' h).elim
    | ok fl =>
      cases fl with
      | next=>exact False.elim h
      | brk=>exact False.elim h
      | cont=>exact False.elim h
      | ret u =>
        obtain ⟨v,H',os,bare,un,hok',r',q⟩:=h
        have q':v = .bl true:=q
        subst q'
        obtain rfl:u=Value.bool true:=r'
        refine ⟨rfl,OldK.of_keep fun b o e=>?_,os,bare⟩
        cases q:H b with
        | none=>exact un.keep b o e q (by intro z; exact absurd (show b∈([]:List Addr) from z) (by simp)) (by simp)
        | some u =>
          rcases hO b with z | ⟨ob,xs,z⟩
          · rw [q] at z; cases z
          · have z2:=un.frzs b ob _ z
            obtain ⟨e1,_⟩:=hok b _ z
            obtain ⟨e2,_⟩:=hok' b _ z2
            rw [e] at e1; cases e1
            exact e2
  cases hk:K.lookup a with
  | some o =>
    have e:=KX a o hk
    rw [ha] at e
    cases e
    refine core (fun _=>none) (fun _=>.inl rfl) (.inr ⟨_,vs.toArray,_,hk,rfl,rfl,rfl,by rw [List.size_toArray,lenV]; exact hl,by simpa using rv⟩) (fun b u z=>by have z':(none:Option HO)=some u:=z; cases z') (fun b z=>absurd rfl z) fun z=>absurd rfl z
  | none =>
    refine core (fun b=>if b=a then some (.frz { cls:=.type "list", data:=.seq vs.toArray } (.lst (ns.map V.int))) else none) (fun b=>?_) (.inl (.inr ⟨{ cls:=.type "list", data:=.seq vs.toArray },if_pos rfl⟩)) (fun b u z=>?_) (fun b z=>?_) fun _=>hk
    · by_cases hb:b=a
      · exact .inr ⟨_,_,if_pos hb⟩
      · exact .inl (if_neg hb)
    · by_cases hb:b=a
      · have z':=(if_pos hb).symm.trans z
        cases z'
        subst hb
        exact ⟨ha,by rw [List.length_map]; exact hl,vs,_,rv,ha⟩
      · have z':=(if_neg hb).symm.trans z
        cases z'
    · by_cases hb:b=a
      · exact hb
      · exact absurd (if_neg hb) z
abbrev KOf {K:PySem.W.Frag} {h:Heap} (_:K.In h):PySem.W.Frag:=K
theorem walk_of {l:PySem.W.OpenLaw} {n k:Nat} {q:Program} {loose:List Str} {XP:(Str->Option Value)->Heap->Prop} {YP:World->Heap->Prop} {d:DefRec} {K:Params->PySem.W.Frag} {CX:World->CXT} {sp:World->Sp} {x:Str}
    (hn:l.most=some n) (hn2:n<=sizeLine) (hdf:d.params.defaults = []) (hr:Room k callerA)
    (hY:∀ (w:World) (h:Heap),YP w h->(K w.params).In h)
    (F:∀ (w:World) (mg:Str->Option Value) (fa:Addr) (h:Heap),(K w.params).In h->h.Ns mainGlobals mg->mg d.name=some (.ref fa) ->
      ∃ fd:FuncData,(∀ (s:Shared) (u:Value),BindsTo s fd ⟨[u],[]⟩ [(x,u)]) /\
        ∀ base:Heap,(K w.params).In base->base.Ns mainGlobals mg->FnOk l.prog w (K w.params) mg base (CX w) k fa fd [x] (sp w))
    (hsp:∀ (w:World) (H:Hp) (a:Addr) (ns:List Int),ns.length<=n->Only H->SqL (K w.params) H a (ns.map V.int)->sp w [.ref a] H (fun v _=>v = .bl true) fun _ _ _=>False)
    (hCX:∀ (w:World) (H:Hp) (s:Shared) (e:Value) (s':Shared),CX w [] H s (fun _ _ _=>False) e s'->False) :
    PySem.W.WalkO q loose XP YP l.row.toRowW d [] (fun f vs=>PySem.call f vs):=by
  refine Att.attach_call hn hdf fun w s₀ s₁ mg mb fa o pm cd doc a vs ns G Y ho hd hcd hmg hobj hints hlen hg=>?_
  have KX:=hY w _ Y
  obtain ⟨fd,hb,hF⟩:=F w mg fa _ KX G.T.g hmg
  exact law_call KX G.T.g G.T.b G.T.builtins G.T.nolimit hg hobj hints (Nat.le_trans hlen hn2) hr hF hb (fun H hO hS=>hsp w H a ns hlen hO hS) fun H e s'=>hCX w H s₁ e s'
def zat (s:Stmt) (j:Nat):Stmt:=match s with
 | .ClassDef _ _ _ body _ _ _ _ _ _ _=>body.getD j (.Pass ⟨0,0,0,0⟩)
 | _=>.Pass ⟨0,0,0,0⟩
def zal (s:Stmt):Arguments:=match s with
 | .FunctionDef _ a _ _ _ _ _ _ _ _=>a
 | _=>{ posonlyargs:=[],args:=[],vararg:=none,kwonlyargs:=[],kw_defaults:=[],kwarg:=none,defaults:=[] }
def zak (s:Stmt):List Stmt:=match s with
 | .FunctionDef _ _ b _ _ _ _ _ _ _=>b
 | _=>[]
def zab (s:Stmt):Scope:=match s with
 | .FunctionDef _ _ _ _ _ _ sc _ _ _=>sc
 | _=>{ kind:=.function,names:=[],isGenerator:=false,isCoroutine:=false }
abbrev CX0:CXT:=fun _ _ _ _ _ _=>False
abbrev E0:XK:=fun _ _ _=>False
structure Fun (K:PySem.W.Frag) (x qual:Str) (st:Stmt) (f:Addr) (fd:FuncData):Prop where
 ex:∃ (oc:Value) (od:Option Addr) (kV doc pm:Value) (an:Option Addr) (cdv ct:Value) (osl:Array (Option Value)),
  fd=PySem.W.fnOf x qual (zal st) (zak st) (zab st) .none kV doc pm an cdv ct/\K.lookup f=some ⟨oc,od,.func fd,osl⟩/\PySem.W.codeIn K cdv qual=true
 kp:PySem.W.keepIn K (.ref f)=true
section
variable {P:Program} {w:World} {K:PySem.W.Frag} {mg:Str->Option Value} {base:Heap}
theorem Fun.ok {x qual:Str} {st:Stmt} {f:Addr} {fd:FuncData} {N ps:List Str} {k:Nat} {sp:Sp} (F:Fun K x qual st f fd) (S:FnScope N ps (zab st)) (len:∀ vs H Q E,sp vs H Q E->vs.length=ps.length)
    (hbody:∀ (cdv:Value) (A:Around) (outer:List Env) (s:Shared) (H:Hp) (vs:List V) (Q:VK) (E:XK),Room k (A.deeper (envOfC qual (zab st) s.heap.objs.size f cdv))->sp vs H Q E ->
      ∃ t,PSs (cxOf CX0 P w K mg base N qual (zab st) f cdv A outer s H E).nox (zak st) t/\t { nx:=fun _ H'=>Q .non H',rt:=Q } (start N vs) H):FnOk P w K mg base CX0 (k+1) f fd ps sp:=by
  obtain ⟨oc,od,kV,doc,pm,an,cdv,ct,osl,rfl,lk,hcd⟩:=F.ex
  refine fn_of lk hcd S len fun A outer s H vs Q E hr hsp=>?_
  obtain ⟨t,h,q⟩:=hbody cdv A outer s H vs Q E hr hsp
  exact ⟨t,h.nox,q⟩
theorem Fun.binds {x qual:Str} {st:Stmt} {f:Addr} {fd:FuncData} {ps:List Str} (F:Fun K x qual st f fd)
    (h:∀ (kV doc pm:Value) (an:Option Addr) (cdv ct:Value) (us:List Value),us.length=ps.length->bindArgs (PySem.W.fnOf x qual (zal st) (zak st) (zab st) .none kV doc pm an cdv ct) ⟨us,[]⟩ = pure (ps.zip us)):Binds K fd ps []:=by
  obtain ⟨oc,od,kV,doc,pm,an,cdv,ct,osl,rfl,lk,hcd⟩:=F.ex
  exact .all (h kV doc pm an cdv ct)
theorem zaw {x qual:Str} {st:Stmt} {f:Addr} {oc:Value} {od an:Option Addr} {osl:Array (Option Value)} {kV doc pm cdv ct:Value} (l:K.lookup f=some ⟨oc,od,.func (PySem.W.fnOf x qual (zal st) (zak st) (zab st) .none kV doc pm an cdv ct),osl⟩)
    (c:PySem.W.codeIn K cdv qual=true) (k:PySem.W.keepIn K (.ref f)=true):Fun K x qual st f (PySem.W.fnOf x qual (zal st) (zak st) (zab st) .none kV doc pm an cdv ct):=⟨⟨oc,od,kV,doc,pm,an,cdv,ct,osl,rfl,l,c⟩,k⟩
end
theorem hu_of {A:Around} {k:Nat} (hr:Room k A):A.units+1<cLine:=Nat.lt_of_le_of_lt (Nat.add_le_add_left (by decide:1<=64) _) hr.units
section
variable {X:Cx}
theorem pv (i:Nat) {x:Str} {pos:Pos} (hN:X.N[i]? = some x:=by rfl) (hv:Vis X.env.scope x:=by first | exact Or.inl rfl | exact Or.inr (Or.inl rfl) | exact Or.inr (Or.inr rfl)) (hd:(x == ("__debug__" : Str))=false:=by decide)
    (hcd:(x == ("__classdict__" : Str))=false:=by decide):PE X (.Name x pos) (tVar i):=zyb hN hv hd hcd
end
theorem ite2 {c A B:Prop} [Decidable c] (h1:c->A) (h2:¬ c->B):if c then A else B:=by
 by_cases h:c
 ·rw [if_pos h]
  exact h1 h
 ·rw [if_neg h]
  exact h2 h
def Same (H H':Hp):Prop:=∀ b o,H b=some o->H' b=some o
theorem Same.refl (H:Hp):Same H H:=fun _ _ h=>h
theorem Same.trans {H H1 H2:Hp} (a:Same H H1) (b:Same H1 H2):Same H H2:=fun c o h=>b c o (a c o h)
theorem Same.free {H H':Hp} (e:Same H H') {l:Addr} (h:H' l=Option.none):H l=Option.none:=by
 cases q:H l with
 | none=>rfl
 | some o =>
  rw [e l o q] at h
  cases h
theorem Same.seq {K:PySem.W.Frag} {H H':Hp} {a:Addr} {xs:List V} (e:Same H H') (h:SqL K H a xs):SqL K H' a xs:=by
 rcases h with (h | ⟨o,h⟩) | h
 ·exact .inl (.inl (e _ _ h))
 ·exact .inl (.inr ⟨o,e _ _ h⟩)
 ·exact .inr h
end L2
set_option maxHeartbeats 4000000
namespace L2
open PySem PySem.Spec PyProof.Rows
theorem hg {G:Prop} (h:∀ G':Prop,(G->G')->G'):G:=h G id
theorem elc {α:Type} {P:List α->Prop} {n:Nat} (h:∀ x r,r.length=n->P (x :: r)):∀ us:List α,us.length=n+1->P us
 | [],e=>absurd e (by simp)
 | x :: r,e=>h x r (by simpa using e)
theorem el0 {α:Type} {P:List α->Prop} (h:P []):∀ us:List α,us.length = 0->P us
 | [],_=>h
 | _ :: _,e=>absurd e (by simp)
theorem el1 {α:Type} {P:List α->Prop} (h:∀ x0,P [x0]):∀ us:List α,us.length = 1->P us:=elc fun x r e=>el0 (P:=fun r=>P (x :: r)) (h x) r e
theorem el2 {α:Type} {P:List α->Prop} (h:∀ x0 x1,P [x0,x1]):∀ us:List α,us.length = 2->P us:=elc fun x r e=>el1 (P:=fun r=>P (x :: r)) (h x) r e
theorem el3 {α:Type} {P:List α->Prop} (h:∀ x0 x1 x2,P [x0,x1,x2]):∀ us:List α,us.length = 3->P us:=elc fun x r e=>el2 (P:=fun r=>P (x :: r)) (h x) r e
theorem el4 {α:Type} {P:List α->Prop} (h:∀ x0 x1 x2 x3,P [x0,x1,x2,x3]):∀ us:List α,us.length = 4->P us:=elc fun x r e=>el3 (P:=fun r=>P (x :: r)) (h x) r e
end L2
namespace Sw
def dv (a b:Int):Int:=(Int.gcd a b:Nat)
theorem dv_nn (a b:Int):0<=dv a b:=Int.natCast_nonneg _
theorem dv_l (a b:Int):dv a b ∣ a:=Int.gcd_dvd_left a b
theorem dv_r (a b:Int):dv a b ∣ b:=Int.gcd_dvd_right a b
theorem zwc (a b:Int):dv a b=dv b a:=by unfold dv; rw [Int.gcd_comm]
theorem zrn (a b:Int):dv (-a) b=dv a b:=by unfold dv; rw [Int.neg_gcd]
theorem zro (a b:Int):dv a (-b)=dv a b:=by unfold dv; rw [Int.gcd_neg]
theorem dv_zero (a:Int) (h:0<=a):dv a 0=a:=by
 unfold dv; rw [Int.gcd_zero_right]; omega
theorem zym {a b:Int} (h:dv a b = 0):a = 0/\b = 0:=by
 unfold dv at h
 exact Int.gcd_eq_zero_iff.mp (by omega)
theorem dv_pos {a b:Int} (h:b≠0):0<dv a b:=by
 have:=dv_nn a b
 rcases Int.lt_or_eq_of_le this with q | q
 ·exact q
 ·exact absurd (zym q.symm).2 h
theorem zvd {a b c:Int} (h1:c ∣ a) (h2:c ∣ b):c ∣ dv a b:=Int.dvd_coe_gcd h1 h2
theorem zyn {a b c d:Int} (h:∀ x:Int,(x ∣ a/\x ∣ b)↔(x ∣ c/\x ∣ d)):dv a b=dv c d:=by
 have h1:dv a b ∣ dv c d:=zvd ((h _).mp ⟨dv_l a b,dv_r a b⟩).1 ((h _).mp ⟨dv_l a b,dv_r a b⟩).2
 have h2:dv c d ∣ dv a b:=zvd ((h _).mpr ⟨dv_l c d,dv_r c d⟩).1 ((h _).mpr ⟨dv_l c d,dv_r c d⟩).2
 exact Int.dvd_antisymm (dv_nn _ _) (dv_nn _ _) h1 h2
theorem dv_step (a b:Int):dv b (a % b)=dv a b:=by
 refine zyn fun x=>⟨fun ⟨h1,h2⟩=>⟨?_,h1⟩,fun ⟨h1,h2⟩=>⟨h2,?_⟩⟩
 ·have e:=Int.mul_ediv_add_emod a b
  rw [<- e]
  exact Int.dvd_add (Int.dvd_trans h1 (Int.dvd_mul_right b _)) h2
 ·rw [Int.emod_def]
  exact Int.dvd_sub h1 (Int.dvd_trans h2 (Int.dvd_mul_right b _))
theorem dv_abs (a b:Int):dv (if a<0 then -a else a) (if b<0 then -b else b)=dv a b:=by
 split <;> split <;> simp only [zrn,zro]
theorem ztu (g a b:Int) (h:0<=g):dv (g*a) (g*b)=g*dv a b:=by
 unfold dv; rw [Int.gcd_mul_left]
 have:((g.natAbs*a.gcd b:Nat):Int)=(g.natAbs:Int)*(a.gcd b:Nat):=by simp
 rw [this]; congr 1; omega
theorem zwd {a b:Int} (h:dv a b≠0):dv (a / dv a b) (b / dv a b) = 1:=by
 have hp:0<dv a b:=by have:=dv_nn a b; omega
 have e1:a=dv a b*(a / dv a b):=(Int.mul_ediv_cancel' (dv_l a b)).symm
 have e2:b=dv a b*(b / dv a b):=(Int.mul_ediv_cancel' (dv_r a b)).symm
 have e:dv a b=dv a b*dv (a / dv a b) (b / dv a b):=by
  have:=ztu (dv a b) (a / dv a b) (b / dv a b) (Int.le_of_lt hp)
  rw [<- e1,<- e2] at this
  exact this
 have e':dv a b*1=dv a b*dv (a / dv a b) (b / dv a b):=by rw [Int.mul_one]; exact e
 exact (Int.eq_of_mul_eq_mul_left (by omega) e').symm
structure Fr (n d:Int):Prop where
 pos:0<d
 low:dv n d = 1
theorem zls {n d x:Int} (h:dv n d = 1) (q:d ∣ n*x):d ∣ x:=by
 have h':Nat.Coprime d.natAbs n.natAbs:=by
  unfold dv at h
  have:Int.gcd n d = 1:=by omega
  unfold Nat.Coprime
  rw [Nat.gcd_comm]; exact this
 have q':d.natAbs ∣ n.natAbs*x.natAbs:=by rw [<- Int.natAbs_mul]; exact Int.natAbs_dvd_natAbs.mpr q
 exact Int.natAbs_dvd_natAbs.mp (h'.dvd_of_dvd_mul_left q')
theorem Fr.uniq {n d m e:Int} (h:Fr n d) (k:Fr m e) (q:n*e=m*d):n=m/\d=e:=by
 have h1:d ∣ e:=zls h.low ⟨m,by rw [q,Int.mul_comm]⟩
 have h2:e ∣ d:=zls k.low ⟨n,by rw [<- q,Int.mul_comm]⟩
 have e1:d=e:=Int.dvd_antisymm (Int.le_of_lt h.pos) (Int.le_of_lt k.pos) h1 h2
 subst e1
 have:=h.pos
 exact ⟨Int.eq_of_mul_eq_mul_right (by omega) q,rfl⟩
def rN (t b:Int):Int:=if b<0 then t / (-(dv t b)) else t / dv t b
def rD (t b:Int):Int:=if b<0 then b / (-(dv t b)) else b / dv t b
theorem zyo {t b:Int}:rN t b*(if b<0 then -(dv t b) else dv t b)=t:=by
 unfold rN
 split
 ·exact Int.ediv_mul_cancel (Int.neg_dvd.mpr (dv_l t b))
 ·exact Int.ediv_mul_cancel (dv_l t b)
theorem zyp {t b:Int}:rD t b*(if b<0 then -(dv t b) else dv t b)=b:=by
 unfold rD
 split
 ·exact Int.ediv_mul_cancel (Int.neg_dvd.mpr (dv_r t b))
 ·exact Int.ediv_mul_cancel (dv_r t b)
theorem zrp {t b:Int} (h:b≠0):rN t b*b=rD t b*t:=by
 have e1:=zyo (t:=t) (b:=b)
 have e2:=zyp (t:=t) (b:=b)
 generalize (if b<0 then -(dv t b) else dv t b)=c at e1 e2
 calc rN t b*b=rN t b*(rD t b*c):=by rw [e2]
  _=rD t b*(rN t b*c):=by rw [<- Int.mul_assoc,<- Int.mul_assoc,Int.mul_comm (rN t b)]
  _=rD t b*t:=by rw [e1]
theorem zyq {t b:Int} (h:b≠0):Fr (rN t b) (rD t b):=by
 have hp:=dv_pos (a:=t) h
 refine ⟨?_,?_⟩
 ·unfold rD
  by_cases hb:b<0
  ·rw [if_pos hb,Int.ediv_neg]
   obtain ⟨k,hk⟩:=dv_r t b
   have:b / dv t b=k:=Int.ediv_eq_of_eq_mul_right (by omega) hk
   rw [this]
   rcases Int.lt_or_le k 0 with q | q
   ·omega
   ·have:=Int.mul_nonneg (Int.le_of_lt hp) q; omega
  ·rw [if_neg hb]
   obtain ⟨k,hk⟩:=dv_r t b
   have:b / dv t b=k:=Int.ediv_eq_of_eq_mul_right (by omega) hk
   rw [this]
   rcases Int.lt_or_le 0 k with q | q
   ·exact q
   ·have:=Int.mul_nonneg_of_nonpos_of_nonpos (a:=-(dv t b)) (b:=k) (by omega) q
    rw [Int.neg_mul] at this
    omega
 ·have q:=zwd (a:=t) (b:=b) (by omega)
  unfold rN rD
  by_cases hb:b<0
  ·rw [if_pos hb,if_pos hb,Int.ediv_neg,Int.ediv_neg,zrn,zro]; exact q
  ·rw [if_neg hb,if_neg hb]; exact q
def Sz (n:Nat) (x:Int):Prop:=x.natAbs<2 ^ n
theorem Sz.mono {m n:Nat} {x:Int} (h:Sz m x) (hm:m<=n):Sz n x:=Nat.lt_of_lt_of_le h (Nat.pow_le_pow_right (by decide) hm)
theorem Sz.mul {m n:Nat} {x y:Int} (h:Sz m x) (k:Sz n y):Sz (m+n) (x*y):=by
 unfold Sz at *
 rw [Int.natAbs_mul,Nat.pow_add]
 by_cases hy:y.natAbs = 0
 ·rw [hy,Nat.mul_zero]; exact Nat.mul_pos (Nat.two_pow_pos m) (Nat.two_pow_pos n)
 ·exact Nat.mul_lt_mul_of_lt_of_lt h k
theorem Sz.add {n:Nat} {x y:Int} (h:Sz n x) (k:Sz n y):Sz (n+1) (x+y):=by
 unfold Sz at *
 rw [Nat.pow_succ]; omega
theorem Sz.sub {n:Nat} {x y:Int} (h:Sz n x) (k:Sz n y):Sz (n+1) (x-y):=by
 unfold Sz at *
 rw [Nat.pow_succ]; omega
theorem Sz.neg {n:Nat} {x:Int} (h:Sz n x):Sz n (-x):=by unfold Sz at *; omega
theorem Sz.le {n:Nat} {x y:Int} (h:Sz n y) (k:x.natAbs<=y.natAbs):Sz n x:=Nat.lt_of_le_of_lt k h
theorem Sz.zero (n:Nat):Sz n 0:=Nat.two_pow_pos n
theorem Sz.dvd {n:Nat} {x y:Int} (h:Sz n y) (d:x ∣ y) (hy:y≠0):Sz n x:=by
 refine h.le ?_
 exact Nat.le_of_dvd (by omega) (Int.natAbs_dvd_natAbs.mpr d)
end Sw
namespace Sw
theorem Sz.lit {x:Int} (h:x.natAbs<1606938044258990275541962092341162602522202993782792835301376):Sz 5000 x:=by
 have e:(2:Nat) ^ 200 = 1606938044258990275541962092341162602522202993782792835301376:=by decide
 exact Nat.lt_of_lt_of_le (by rw [e]; exact h) (Nat.pow_le_pow_right (by decide) (by decide:200<=5000))
end Sw
namespace Sw
end Sw
namespace Sw
theorem Sz.r18 {x:Int} (h1:-100000000000000000000<x) (h2:x<100000000000000000000):Sz 70 x:=by
 have e:(2:Nat) ^ 70 = 1180591620717411303424:=by decide
 unfold Sz; rw [e]; omega
theorem Sz.one (n:Nat):Sz (n+1) 1:=by
 unfold Sz
 exact Nat.lt_of_lt_of_le (by decide:Int.natAbs 1<2 ^ 1) (Nat.pow_le_pow_right (by decide) (by omega))
end Sw
namespace L2
open PySem PySem.Spec PyProof.Rows
theorem zlg {n:Nat} {x:Int} (h:Sw.Sz n x):Builtin.Int.intBits x<=n:=by
 unfold Builtin.Int.intBits
 split
 ·exact Nat.zero_le _
 ·rename_i hx
  have hx':x≠0:=by simpa using hx
  have:x.natAbs.log2<n:=(Nat.log2_lt (by omega)).mpr h
  omega
def CMulL (i j:Int):Prop:=Sw.Sz 5000 i/\Sw.Sz 5000 j
def CDivL (i j:Int):Prop:=0<j/\Sw.Sz 5000 j
def CDivS (i j:Int):Prop:=j≠0/\Sw.Sz 5000 j
theorem zmy {i j:Int} (h0:j≠0) (h:Sw.Sz 5000 j):Builtin.divisionGoesByPylong i j=false:=by
 refine PyProof.noPylong_of_log2 ?_
 have:j.natAbs.log2<5000:=(Nat.log2_lt (by omega)).mpr h
 omega
section
variable {X:Cx}
theorem zct:OpR X (binaryOp .Mult) (rI CMulL fun i j=>.int (i*j)):=opI fun _ _ _ _ _ _ _ hc q =>
 mul_int q (IntMulOk.of_bits (Nat.le_trans (zlg hc.1) (by decide)) (Nat.le_trans (zlg hc.2) (by decide)))
theorem zpb:OpR X (binaryOp .FloorDiv) (rI CDivL fun i j=>.int (i / j)):=opI fun i j _ _ _ _ _ hc q=>by
 have h1:(0:Int)<j:=hc.1
 exact floordiv_int (by omega) (by rw [Int.fdiv_eq_ediv_of_nonneg i (by omega)]; exact q) (.inl (zmy (by omega) hc.2))
theorem zlt:OpR X (binaryOp .FloorDiv) (rI CDivS fun i j=>.int (i.fdiv j)):=opI fun _ _ _ _ _ _ _ hc q=>floordiv_int hc.1 q (.inl (zmy hc.1 hc.2))
structure Def (P:Program) (w:World) (K:PySem.W.Frag) (mg:Str->Option Value) (base:Heap) (CX:CXT) (k:Nat) (x:Str) (ps:List Str) (sp:Sp):Prop where
 ex:∃ (f:Addr) (fd:FuncData),FnOk P w K mg base CX k f fd ps sp/\Binds K fd ps []/\PySem.W.keepIn K (.ref f)=true/\mg x=some (.ref f)
structure Src (K:PySem.W.Frag) (mg:Str->Option Value) (x:Str) (st:Stmt) (ps:List Str):Prop where
 ex:∃ (f:Addr) (fd:FuncData),Fun K x x st f fd/\Binds K fd ps []/\mg x=some (.ref f)
end
end L2
namespace L2
theorem zrq {c:TT} {tb:TS} {D:Ends} {σ:St} {H:Hp} (Pv:St->Hp->Prop) (μ:St->Hp->Nat) (h0:Pv σ H)
    (hs:∀ σ H,Pv σ H->∃ b:Bool,(∀ Q:Bool->Hp->Prop,Q b H->c σ H Q)/\(b=true->tb { D with nx:=fun σ' H'=>Pv σ' H'/\μ σ' H' < μ σ H,ct:=fun σ' H'=>Pv σ' H'/\μ σ' H' < μ σ H,bk:=D.nx } σ H)/\(b=false->D.nx σ H)):zqy c tb D σ H:=by
  refine ⟨fun m σ H=>m = μ σ H/\Pv σ H,⟨_,rfl,h0⟩,?_⟩
  rintro m σ H ⟨rfl,p⟩
  obtain ⟨b,hc,h1,h2⟩:=hs σ H p
  refine hc _ ?_
  cases b with
  | true=>exact ⟨_,fun σ' H' ⟨p',l⟩=>⟨_,l,rfl,p'⟩,h1 rfl⟩
  | false=>exact h2 rfl
end L2
namespace L2
open PySem PySem.Spec PyProof.Rows
theorem zjc {X:Cx} {x:Str} {n:Int} {pos:Pos} (hg:Gl X x) (hm:∃ t,X.mg x=some (.int n t)) (hd:(x == ("__debug__" : Str))=false:=by decide):PE X (.Name x pos) (tC (.int n)):=by
 obtain ⟨t,hm⟩:=hm
 exact zlo hg hm ⟨t,rfl⟩ hd
def spLaw (K:PySem.W.Frag):Sp:=fun vs H Q _=>∃ (a:Addr) (ns:List Int),vs = [.ref a]/\SqL K H a (ns.map V.int)/\ns.length<=63/\∀ H',Q (.bl true) H'
def spInt1 (g:Int->Int):Sp:=fun vs H Q _=>∃ a,vs = [.int a]/\Q (.int (g a)) H
def spInt2 (g:Int->Int->Int):Sp:=fun vs H Q _=>∃ a b,vs = [.int a,.int b]/\Q (.int (g a b)) H
def cellI (ns:List Int) (k:Int):Int:=(ns[k.toNat]?).getD 0
def zve (K:PySem.W.Frag):Sp:=fun vs H Q _=>∃ a ns k,vs = [.ref a,.int k]/\SqL K H a (ns.map V.int)/\0<=k/\Q (.int (cellI ns k)) H
theorem zqk {ns:List Int} {k:Int} (h0:0<=k) (h:k<ns.length):atI (ns.map V.int) k=some (V.int (cellI ns k)):=by
 have e:((k.toNat:Nat):Int)=k:=by omega
 have hl:k.toNat<ns.length:=by omega
 have q:(ns.map V.int)[k.toNat]? = some (V.int (cellI ns k)):=by
  rw [List.getElem?_map]
  unfold cellI
  rw [List.getElem?_eq_getElem hl]
  rfl
 have:=zga q
 rw [e] at this
 exact this
theorem zod {ns:List Int} {k:Int} (h0:0<=k) (h:¬ k<ns.length):cellI ns k = 0:=by
 unfold cellI
 rw [List.getElem?_eq_none (by omega)]
 rfl
def spWhole:Sp:=fun vs H Q _=>∃ n,vs = [.int n]/\Q (.bl true) H
end L2
namespace L2
theorem zae {t u:TS} {D:Ends} {σ:St} {H:Hp} (h:∀ R:St->Hp->Prop,(∀ σ H,u D σ H->R σ H)->t { D with nx:=R } σ H):tSeq t u D σ H:=h (u D) fun _ _ x=>x
end L2
namespace L2
open PySem PySem.Spec PyProof.Rows
theorem zgb {K:PySem.W.Frag} {H:Hp} {a:Addr} {ns:List Int} {k:Int} {Q:VK} {E:XK} (hS:SqL K H a (ns.map V.int)) (h0:0<=k) (q:Q (.int (cellI ns k)) H):zve K [.ref a,.int k] H Q E:=⟨a,ns,k,rfl,hS,h0,q⟩
end L2
namespace L2
theorem cmulL_lit {a b:Int} (h1:a.natAbs<1606938044258990275541962092341162602522202993782792835301376) (h2:b.natAbs<1606938044258990275541962092341162602522202993782792835301376):CMulL a b:=⟨Sw.Sz.lit h1,Sw.Sz.lit h2⟩
theorem cdivL_lit {a b:Int} (h0:0<b) (h2:b.natAbs<1606938044258990275541962092341162602522202993782792835301376):CDivL a b:=⟨h0,Sw.Sz.lit h2⟩
end L2
namespace L2
open PySem
theorem line_lit {n:Nat} (h:n<=1000):n<=sizeLine:=Nat.le_trans h (by decide)
theorem line_lt {n:Nat} (h:n<1000):n<sizeLine:=Nat.lt_of_lt_of_le h (by decide)
theorem zbl {K:PySem.W.Frag} {H:Hp} {p:Addr} {xs:List V} {i:Int} {v:V} {Q:VK} (hT:SqT K H p xs) (h:atI xs i=some v) (q:Q v H):rIxT K (.ref p) (.int i) H Q:=⟨p,xs,i,v,rfl,rfl,hT,h,q⟩
theorem zjp {K:PySem.W.Frag} {H:Hp} {p:Addr} {xs:List V} {i:Int} {v:V} {Q:VK} (hT:SqL K H p xs) (h:atI xs i=some v) (q:Q v H):rIxL K (.ref p) (.int i) H Q:=⟨p,xs,i,v,rfl,rfl,hT,h,q⟩
end L2
namespace L2
open PySem PySem.Spec PyProof.Rows
end L2
namespace L2
theorem iteN {c A B:Prop} [Decidable c] (hc:¬ c) (h:B):if c then A else B:=by rw [if_neg hc]; exact h
end L2
namespace L2
end L2
namespace L2
open PySem PySem.Spec PyProof.Rows
mutual
inductive Deep (K:PySem.W.Frag) (H:Hp):V->PyData->Prop
 | non:Deep K H .non .none
 | bl (b:Bool):Deep K H (.bl b) (.bool b)
 | int (i:Int):Deep K H (.int i) (.int i)
 | str (x:Str):Deep K H (.str x) (.str x)
 | tup {a:Addr} {xs:List V} {ds:List PyData}:SqT K H a xs->DeepAll K H xs ds->Deep K H (.ref a) (.tuple ds)
 | lst {a:Addr} {xs:List V} {ds:List PyData}:SqL K H a xs->DeepAll K H xs ds->Deep K H (.ref a) (.list ds)
inductive DeepAll (K:PySem.W.Frag) (H:Hp):List V->List PyData->Prop
 | nil:DeepAll K H [] []
 | cons {x:V} {d:PyData} {xs:List V} {ds:List PyData}:Deep K H x d->DeepAll K H xs ds->DeepAll K H (x :: xs) (d :: ds)
end
section
variable {X:Cx} {pins:List (Addr×Obj)} {σ:St} {H:Hp} {s:Shared}
mutual
theorem zfm (I:Inv X pins σ H s):∀ {x:V} {d:PyData} {u:Value},Deep X.K H x d->RelV x u->∃ as,Reads s.heap u d as
 | _,_,u,.non,r=>by cases (show u=Value.none from r); exact ⟨_,.none⟩
 | _,_,u,.bl b,r=>by cases (show u=Value.bool b from r); exact ⟨_,.bool b⟩
 | _,_,u,.int i,r=>by obtain ⟨t,rfl⟩:=(show ∃ t,u=Value.int i t from r); exact ⟨_,.int i t⟩
 | _,_,u,.str x,r=>by obtain ⟨t,rfl⟩:=(show ∃ t,u=Value.str x t from r); exact ⟨_,.str x t⟩
 | _,_,u,.tup (a:=a) q h,r=>by
  cases (show u=Value.ref a from r)
  obtain ⟨its,rv,⟨o,e,c,n,d⟩,hz⟩:=I.tuple q
  obtain ⟨as,ra⟩:=zfr I h rv
  exact ⟨as,reads_tuple_at e c d (by simpa using ra)⟩
 | _,_,u,.lst (a:=a) q h,r=>by
  cases (show u=Value.ref a from r)
  obtain ⟨its,rv,⟨o,n,e,c,_,d⟩,hz⟩:=I.list q
  obtain ⟨as,ra⟩:=zfr I h rv
  exact ⟨_,reads_list_at e c d (by simpa using ra)⟩
theorem zfr (I:Inv X pins σ H s):∀ {xs:List V} {ds:List PyData} {us:List Value},DeepAll X.K H xs ds->Vals xs us->∃ as,ReadsAll s.heap us ds as
 | _,_,_,.nil,.nil=>⟨_,.nil⟩
 | _,_,_,.cons d h,.cons r t=>by
  obtain ⟨as,q⟩:=zfm I d r
  obtain ⟨bs,p⟩:=zfr I h t
  exact ⟨_,.cons q p⟩
end
end
section
variable {X:Cx}
def rNeD (K:PySem.W.Frag):R2:=fun x y H Q=>∃ d e,Deep K H x d/\Deep K H y e/\PySem.SeqAt.shaped d=true/\PySem.SeqAt.shaped e=true/\Q (.bl (!PyData.eqv d e)) H
theorem zyr (hu:X.A.units+64<cLine):OpR X (compareOp .NotEq) (rNeD X.K):=by
 intro pins s σ H x y v u Q I rx ry h
 obtain ⟨d,e,hd,he,sd,se,q⟩:=h
 obtain ⟨as,ra⟩:=zfm I hd rx
 obtain ⟨bs,rb⟩:=zfm I he ry
 exact ne_dataH ra rb sd se hu ⟨.bl _,H,I,rfl,q⟩
end
theorem zap {H:Hp} {a:Addr} {o:HO} (h:H a=none):Same H (upd H a o):=fun b u e=>by rw [zai (zan e h)]; exact e
def Ite (K:PySem.W.Frag) (a:Addr):It :=
  ⟨fun i H=>∃ xs x,SqL K H a xs/\xs[i]? = some x,
   fun i H y H'=>∃ p x,y = .ref p/\H p=none/\(∀ xs,SqL K H a xs->xs[i]? = some x)/\H'=upd H p (.tup [.int i,x]),
   fun i H=>∃ xs,SqL K H a xs/\xs.length<=i⟩
section
variable {X:Cx}
def iEnum (K:PySem.W.Frag) (ta:TA):TI:=fun σ H R=>ta σ H fun vs H1=>∃ a,vs = [.ref a]/\(∃ xs,SqL K H1 a xs)/\R (Ite K a) H1
end
section
variable {prog:Program} {w:World} {A:Around} {R:Result->Shared->Prop} {s:Shared}
theorem zey {elt target iter:Expr} {ifs:List Expr} {scope:Scope} {pos:Pos} {it acc:Value} {env:Env} (I:Nat->Shared->Prop)
    (turn:∀ n s,I n s->wpAny (model prog w) A (pyNext it) (fun r s₁=>match r with
      | none=>R (.ok .next) s₁
      | some v=>wpAny (model prog w) A (letOwnedTupleGo target it v) (fun _ s₁'=>wpAny (model prog w) A (assign target env v) (fun _ s₂ =>
          wpAny (model prog w) A (forIn ifs true fun c r=>if r=true then do let ok <- isTrue c env (eval c env); pure (ForInStep.yield ok) else pure (ForInStep.yield r)) (fun ok s₃ =>
            if ok=true then wpAny (model prog w) A (eval elt env) (fun x s₄ =>
              wpAny (model prog w) A (call (.builtin "list.append") [acc,x]) (fun _ s₅=>∃ m,m<n/\I m s₅) (notedBy (model prog w) A env fun e s'=>R (.error e) s') s₄) (notedBy (model prog w) A env fun e s'=>R (.error e) s') s₃
            else ∃ m,m<n/\I m s₃) (notedBy (model prog w) A env fun e s'=>R (.error e) s') s₂) (notedBy (model prog w) A env fun e s'=>R (.error e) s') s₁') (notedBy (model prog w) A env fun e s'=>R (.error e) s') s₁) (notedBy (model prog w) A env fun e s'=>R (.error e) s') s)
    (n:Nat) (h:I n s) :
    codeAny (model prog w) A (.compLoop (.ListComp elt [⟨target,iter,ifs,0⟩] scope pos) 0 it acc env) R s:=by
  refine codeAny_loop rfl I (fun n s hI=>?_) n h
  show wpAny _ A ((compTurn (.ListComp elt [⟨target,iter,ifs,0⟩] scope pos) 0 it acc env).onRaise (fun x=>do noteFrame x env; theTreesLotGoes x)) _ _ s
  refine wpAny_noted ?_
  rw [compTurn_list]
  refine wpAny_bind (wpAny_standAt (wpAny_bind (wpAny_mono (turn n s hI) (fun r s₁ h₁=>?_) fun _ _ h'=>h')))
  cases r with
  | none=>exact wpAny_pure h₁
  | some v =>
    refine wpAny_bind (wpAny_mono h₁ (fun _ s₁' h₁'=>?_) fun _ _ h'=>h')
    refine wpAny_bind (wpAny_mono h₁' (fun _ s₂ h₂=>wpAny_bind (wpAny_mono h₂ (fun ok s₃ h₃=>?_) fun _ _ h'=>h')) fun _ _ h'=>h')
    cases ok with
    | false=>exact wpAny_pure ⟨rfl,h₃⟩
    | true =>
      exact wpAny_bind (wpAny_bind (wpAny_mono h₃ (fun x s₄ h₄=>wpAny_bind (wpAny_mono h₄ (fun _ s₅ h₅=>wpAny_pure (wpAny_pure ⟨rfl,h₅⟩)) fun _ _ h'=>h')) fun _ _ h'=>h'))
end
def zdc (X:Cx) (scope:Scope) (cl:List (Str×Addr)) (N:List Str) (fp:List Addr) (s:Shared) (H:Hp):Cx :=
 { X with N:=N,s₀:=s,H₀:=H,env:=compEnvC scope cl s.heap.objs.size X.env,outer:=X.stack,stack:=X.stack,ex:=fp,fn:=fun _=>false,pn:=[],xe:=fun _ _=>False }
def FrOk (X:Cx) (sc:Scope):List (Str×Nat)->Prop
 | []=>True
 | p :: r=>(X.N[p.2]? = some p.1/\sc.names.lookup p.1=some .cell/\X.env.kindOf p.1=some .cell)/\FrOk X sc r
theorem FrOk.mem {X:Cx} {sc:Scope}:∀ {l:List (Str×Nat)},FrOk X sc l->∀ p∈l,X.N[p.2]? = some p.1/\sc.names.lookup p.1=some .cell/\X.env.kindOf p.1=some .cell
 | [],_,p,hp=>nomatch hp
 | q :: r,h,p,hp=>by
  rcases List.mem_cons.mp hp with e | hp
  ·rw [e]; exact h.1
  ·exact FrOk.mem h.2 p hp
def PIfs (X:Cx) (ifs:List Expr) (t:TT):Prop :=
 ∀ (pins:List (Addr×Obj)) (s:Shared) (σ:St) (H:Hp) (Q:Bool->Hp->Prop),Inv X pins σ H s->t σ H Q ->
  wpAny (model X.prog X.w) X.A (forIn ifs true fun c r=>if r=true then do let ok <- isTrue c X.env (eval c X.env); pure (ForInStep.yield ok) else pure (ForInStep.yield r)) (TP X pins σ Q) X.xe s
def tYes:TT:=fun _ H Q=>Q true H
theorem zfs {X:Cx}:PIfs X [] tYes:=fun _ _ _ H _ I h=>wpAny_tests_nil ⟨H,I,h⟩
theorem zha {X:Cx} {c:Expr} {t:TT} (hc:PT X c t):PIfs X [c] t:=fun pins s σ H Q I h=>wpAny_tests_one (hc pins s σ H Q I h)
def tComp (nt:Nat) (fr:List (Str×Nat)) (wi:TI) (g:TG) (tc:TT) (te:TE):TE:=fun σ H Q=>wi σ H fun J H1=>∀ D,H1 D=none->∃ W:Nat->Nat->St->Hp->Prop,
 (∃ m,W 0 m (List.replicate nt none++fr.map fun p=>(σ[p.2]?).join) (upd H1 D (.lst [])))/\∀ i m τ H',W i m τ H' ->
  (J.stop i H'/\Q (.ref D) H')\/(J.go i H'/\∃ N:St->Hp->Prop,(∀ τ' H'',N τ' H''->∃ m',m' < m/\W (i+1) m' τ' H'') /\
   ∀ x H2,J.yld i H' x H2->g x τ H2 fun τ2 H3=>tc τ2 H3 fun b H4=>if b=true then te τ2 H4 fun y H5=>∃ ys,H5 D=some (.lst ys)/\ys.length<sizeLine/\N τ2 (upd H5 D (.lst (ys++[y]))) else N τ2 H4)
section
variable {X:Cx}
theorem zpc {scope:Scope} {cl:List (Str×Addr)} {ts:List Str} {fr:List (Str×Nat)} {fp:List Addr} {pins:List (Addr×Obj)} {σ:St} {H:Hp} {s:Shared} {h':Heap} {m:Str->Option Value} {t':Nat} (I:Inv X pins σ H s)
    (hkind:scope.kind = .function) (hcl:∀ x c,cl.lookup x=some c->X.env.cells.lookup x=some c)
    (hhas:∀ x,((relabel scope X.env).names.lookup x=some .cell\/(relabel scope X.env).names.lookup x=some .free)->∃ c,cl.lookup x=some c) (hfr:FrOk X (relabel scope X.env) fr)
    (hfp:∀ b∈fp,FpOk X pins H b/\b<s.heap.objs.size) (hn:h'.Ns s.heap.objs.size m) (hk:∀ b o,s.heap.get? b=some o->h'.get? b=some o) :
    Inv (zdc X scope cl (ts++fr.map (·.1)) fp s H) [] (List.replicate ts.length none++fr.map fun p=>(σ[p.2]?).join) H { s with heap:=h',toks:=t' }:=by
  have cellK:∀ c v,s.heap.IsCell c v->h'.IsCell c v:=fun c v ⟨o,ho,hd⟩=>⟨o,hk c o ho,hd⟩
  refine ⟨⟨I.ok.mod,hkind,I.ok.glob,I.ok.blt,Nat.le_refl _,fun x y c h1 h2=>I.ok.inj x y c (hcl x c h1) (hcl y c h2),hhas,fun x c h=>(by cases h),I.ok.hd,I.ok.frames,.inl rfl,fun b hb=>?_,I.bs,Nat.le_trans I.ok.bsz I.sz,fun b o e hb=>?_,fun b hb z=>?_,I.stack,I.stkFree⟩,
    rfl,I.bare,Un.kept hk,⟨m,hn,fun i x v e1 e2 e3=>?_⟩,fun x c e=>?_,I.hok.fresh (Nat.le_refl _),fun x c e=>I.freeC x c (hcl x c e),fun p hp=>absurd (show p∈([]:List (Addr×Obj)) from hp) (by simp),I.hok.kept hk,?_⟩
  · obtain ⟨f,lt⟩:=hfp b hb
    exact ⟨Nat.ne_of_lt lt,fun x c e=>f.2.2.2.2.1 x c (hcl x c e)⟩
  · obtain ⟨f,lt⟩:=hfp b hb
    rcases f.2.2.2.1 with z | z
    · exact I.ok.noex b o e z
    · exact absurd (Nat.lt_of_lt_of_le (Heap.lt_size e) (Nat.le_trans I.ok.bsz z)) (Nat.lt_irrefl _)
  · obtain ⟨f,lt⟩:=hfp b hb
    rcases List.mem_cons.mp (I.stkSub b z) with y | y
    · exact f.2.1 y
    · exact f.2.2.1 y
  · have hlen:(List.replicate ts.length (none:Option V)).length=ts.length:=by simp
    by_cases hi:i<ts.length
    · rw [List.getElem?_append_left (by rw [hlen]; exact hi),List.getElem?_replicate,if_pos hi] at e2
      cases e2
    · rw [List.getElem?_append_right (by rw [hlen]; omega),hlen,List.getElem?_map] at e2
      have e1':(ts++fr.map (·.1))[i]? = some x:=e1
      rw [List.getElem?_append_right (by omega),List.getElem?_map] at e1'
      cases ep:fr[i-ts.length]? with
      | none=>rw [ep] at e2; cases e2
      | some p =>
        rw [ep] at e1' e2
        have ex:p.1=x:=Option.some.inj e1'
        have ev:(σ[p.2]?).join=some v:=Option.some.inj e2
        obtain ⟨a1,a2,a3⟩:=hfr.mem p (List.mem_of_getElem? ep)
        have ev':σ[p.2]? = some (some v):=by
          cases q:σ[p.2]? with
          | none=>rw [q] at ev; cases ev
          | some o=>rw [q] at ev; cases o with
            | none=>cases ev
            | some v'=>cases ev; rfl
        obtain ⟨m',hn',hl'⟩:=I.loc
        obtain ⟨u,ru,lk⟩:=hl' p.2 p.1 v a1 ev' (.inr (.inl a3))
        subst ex
        refine ⟨u,ru,?_⟩
        rcases lk with ⟨z,_⟩ | ⟨_,c,ec,z⟩
        · rw [z] at a3; cases a3
        · obtain ⟨c',ec'⟩:=hhas p.1 (.inl a2)
          have ecc:c'=c:=Option.some.inj ((hcl _ _ ec').symm.trans ec)
          exact .inr ⟨.inl a2,c',ec',(by rw [ecc]; exact cellK _ _ z)⟩
  · obtain ⟨v,z⟩:=I.cell x c (hcl x c e)
    exact ⟨v,cellK _ _ z⟩
  · show _=(ts++fr.map (·.1)).length
    simp
theorem zwe {elt target iter:Expr} {ifs:List Expr} {scope:Scope} {pos:Pos} {cl:List (Str×Addr)} {ts:List Str} {fr:List (Str×Nat)} {wi:TI} {g:TG} {tc:TT} {te:TE} (hcalm:X.calm=true)
    (hclos:closureFor scope X.env=pure cl) (hcell:∀ y∈scope.names,y.2≠.cell) (hkind:scope.kind = .function) (hnames:∀ y∈scope.names,y.2 = .local->scope.names.lookup y.1=some .local)
    (hcl:∀ x c,cl.lookup x=some c->X.env.cells.lookup x=some c)
    (hhas:∀ x,((relabel scope X.env).names.lookup x=some .cell\/(relabel scope X.env).names.lookup x=some .free)->∃ c,cl.lookup x=some c) (hfr:FrOk X (relabel scope X.env) fr)
    (hi:PI X target iter wi) (hg:∀ fp s H,PG (zdc X scope cl (ts++fr.map (·.1)) fp s H) target g) (hc:∀ fp s H,PIfs (zdc X scope cl (ts++fr.map (·.1)) fp s H) ifs tc)
    (he:∀ fp s H,PE (zdc X scope cl (ts++fr.map (·.1)) fp s H) elt te) (hs:∀ x,foldedSetIterable iter X.env x=pure x:=by intro _; rfl) :
    PE X (.ListComp elt [⟨target,iter,ifs,0⟩] scope pos) (tComp ts.length fr wi g tc te):=by
  intro pins s σ H Q I h
  rw [eval_ListComp]
  refine wpAny_comprehension_free (use:=none) rfl hs hclos hkind hnames (thn (hi pins s σ H _ I h) fun xv s1 h1=>thn h1 fun itv s2 h2=>?_)
  obtain ⟨it,fp,tn,J,H2,rfl,I2,T,st2,f2,hR⟩:=h2
  have D0:H2 s2.heap.objs.size=none:=I2.hok.fresh (Nat.le_refl _)
  obtain ⟨W,⟨m0,w0⟩,turn⟩:=hR s2.heap.objs.size D0
  refine wpAny_newObj_type (wpAny_newFunctionEnv hcell (by intro y hy; simp at hy) (fun h₁ hns₁ hsb₁=>?_) hkind)
  dsimp only at hns₁ hsb₁ ⊢
  have I3:Inv X pins σ (upd H2 s2.heap.objs.size (.lst [])) { s2 with heap:=s2.heap.push { cls:=.type "list", dict:=none,data:=.seq ([]:List Value).toArray } } :=
    I2.laid (t':=s2.toks) (fun _ _ q=>Heap.get?_push_of_some _ q) (Nat.le_refl _) ⟨Nat.zero_le _,[],0,.nil,Heap.get?_push_size _ rfl⟩
  have kp3:∀ b o,s2.heap.get? b=some o->(s2.heap.push { cls:=.type "list", dict:=none,data:=.seq ([]:List Value).toArray }).get? b=some o:=fun b o q=>Heap.get?_push_of_some _ q
  have sz3:(s2.heap.push { cls:=.type "list", dict:=none,data:=.seq ([]:List Value).toArray }).objs.size=s2.heap.objs.size+1:=Heap.size_push ..
  generalize s2.heap.push { cls:=.type "list", dict:=none,data:=.seq ([]:List Value).toArray } = hp3 at hns₁ hsb₁ I3 kp3 sz3 ⊢
  have kp:∀ b o,hp3.get? b=some o->h₁.get? b=some o:=fun b o e=>hsb₁.extBut b o (Nat.ne_of_lt (Heap.lt_size e)) (Heap.get?_push_of_some _ e)
  have flt:∀ b∈fp,b<s2.heap.objs.size:=fun b hb=>by
    obtain ⟨o,e,_⟩:=T.obj _ _ st2 b hb
    exact Heap.lt_size e
  have fr3:∀ b∈fp,(upd H2 s2.heap.objs.size (.lst [])) b=none:=fun b hb=>by rw [zai (Nat.ne_of_lt (flt b hb))]; exact (f2 b hb).1
  have f3:∀ b∈fp,FpOk X pins (upd H2 s2.heap.objs.size (.lst [])) b/\b<hp3.objs.size:=fun b hb=>⟨⟨fr3 b hb,(f2 b hb).2⟩,by rw [sz3]; exact Nat.lt_succ_of_lt (flt b hb)⟩
  have I4:=zpc (ts:=ts) (t':=s2.toks+([]:List (Str×Value)).length) I3 hkind hcl hhas hfr f3 hns₁ kp
  have st4:tn 0 h₁:=T.keep _ _ _ st2 fun b hb o e=>kp b o (kp3 b o e)
  have loop:codeAny (model X.prog X.w) X.A (.compLoop (.ListComp elt [⟨target,iter,ifs,0⟩] scope pos) 0 (.ref it) (.ref s2.heap.objs.size) (compEnvC scope cl hp3.objs.size X.env))
      (compPost (model X.prog X.w) X.A X.xe none (EP X pins σ Q) (.ref s2.heap.objs.size) hp3.objs.size) { s2 with heap:=h₁,toks:=s2.toks+([]:List (Str×Value)).length }:=by
    refine zey (fun n s'=>∃ i τ H',Inv (zdc X scope cl (ts++fr.map (·.1)) fp { s2 with heap:=hp3 } (upd H2 s2.heap.objs.size (.lst []))) [] τ H' s'/\tn i s'.heap/\(∀ b∈fp,H' b=none)/\W i n τ H') ?_ m0 ⟨0,_,_,I4,st4,fr3,w0⟩
    rintro n s5 ⟨i,τ,H5,I5,st5,fr5,w5⟩
    have stat:∀ {H':Hp},(∀ b∈fp,H' b=none)->∀ b∈fp,FpOk (zdc X scope cl (ts++fr.map (·.1)) fp { s2 with heap:=hp3 } (upd H2 s2.heap.objs.size (.lst []))) [] H' b :=
      fun hn b hb=>⟨hn b hb,(I5.ok.exf b hb).1,I5.ok.exfs b hb,.inl hb,(I5.ok.exf b hb).2,fun p hp=>absurd (show p∈([]:List (Addr×Obj)) from hp) (by simp)⟩
    rcases turn i n τ H5 w5 with ⟨stop,qn⟩ | ⟨go,Nn,hN,step⟩
    · refine thn (T.done (zdc X scope cl (ts++fr.map (·.1)) fp { s2 with heap:=hp3 } (upd H2 s2.heap.objs.size (.lst []))) rfl rfl rfl hcalm i [] s5 τ H5 _ I5 (stat fr5) st5 stop) fun r s6 ⟨hr,I6⟩=>?_
      subst hr
      obtain ⟨m,hn,_⟩:=I6.loc
      refine ⟨m,hn,fun h' hs'=>⟨.ref s2.heap.objs.size,H5,?_,rfl,qn⟩⟩
      have neC:∀ b o,hp3.get? b=some o->b≠hp3.objs.size:=fun b o e=>Nat.ne_of_lt (Heap.lt_size e)
      have hs'':Heap.SameBut hp3.objs.size s6.heap h':=hs'
      refine I3.call' (s':={ s6 with heap:=h' }) (ch:=fp) I6.os ⟨fun b o e n hb hx=>?_,fun b o e n hb hx=>?_,I6.base.free,fun b o e hx=>?_,I6.base.tups,I6.base.frzs,I6.base.tbls⟩ (fun b ob e=>?_) I6.bare (fun b hb=>?_)
      · exact (hs''.2 b (neC b o e)).trans (I6.base.keep b o e n hb hx)
      · obtain ⟨sl,q⟩:=I6.base.slot b o e n hb hx
        exact ⟨sl,(hs''.2 b (neC b o e)).trans q⟩
      · obtain ⟨o',q⟩:=I6.base.there b o e hx
        exact ⟨o',(hs''.2 b (neC b o e)).trans q⟩
      · refine (I6.hok b ob e).stay (fun c v hc q=>(hs''.2 c ?_).trans q) (fun _ q=>q) fun _ _ q=>q
        intro z
        have fz:H5 hp3.objs.size=none:=I6.free
        rcases hc with y | y
        · rw [<- y,z,fz] at e; cases e
        · rw [z,fz] at y; cases y
      · exact ⟨(f2 b hb).2.2.2.1,(f2 b hb).2.1,(f2 b hb).2.2.2.2.1,(f2 b hb).2.2.2.2.2⟩
    · refine thn (T.item (zdc X scope cl (ts++fr.map (·.1)) fp { s2 with heap:=hp3 } (upd H2 s2.heap.objs.size (.lst []))) rfl rfl rfl hcalm i [] s5 τ H5 _ I5 (stat fr5) st5 go) fun r s6 ⟨u,hr,h6⟩=>?_
      subst hr
      refine thn h6 fun _ s7 ⟨x,H7,I7,r7,y7,st7,fr7⟩=>?_
      have I7':=I7.pinned (stat fr7) (T.obj _ _ st7)
      refine wpAny_mono (hg fp _ _ _ s7 τ H7 x u _ I7' r7 (step x H7 y7)) (fun _ s8 ⟨τ8,H8,I8,q8⟩=>?_) fun _ _ z=>False.elim z
      have again:∀ {τ9:St} {H9:Hp} {s9:Shared},Inv (zdc X scope cl (ts++fr.map (·.1)) fp { s2 with heap:=hp3 } (upd H2 s2.heap.objs.size (.lst []))) ([]++zld fp s7.heap) τ9 H9 s9->Nn τ9 H9 ->
          ∃ m,m<n/\∃ i τ H',Inv (zdc X scope cl (ts++fr.map (·.1)) fp { s2 with heap:=hp3 } (upd H2 s2.heap.objs.size (.lst []))) [] τ H' s9/\tn i s9.heap/\(∀ b∈fp,H' b=none)/\W i m τ H':=fun {τ9 H9 s9} I9 n9=>by
        obtain ⟨m',hm,w9⟩:=hN τ9 H9 n9
        refine ⟨m',hm,i+1,τ9,H9,I9.unpinned,T.keep _ _ _ st7 fun b hb o e=>(I9.pin (b,o) (List.mem_append_right _ (List.mem_append_right _ (zer hb e)))).1,fun b hb=>?_,w9⟩
        obtain ⟨o,e,d⟩:=T.obj _ _ st7 b hb
        exact (I9.pin (b,o) (List.mem_append_right _ (List.mem_append_right _ (zer hb e)))).2.1
      refine wpAny_mono (hc fp _ _ _ s8 τ8 H8 _ I8 q8) (fun ok s9 ⟨H9,I9,q9⟩=>?_) fun _ _ z=>False.elim z
      cases ok with
      | false=>exact again I9 q9
      | true =>
        refine wpAny_mono (he fp _ _ _ s9 τ8 H9 _ I9 q9) (fun y s10 ⟨v,H10,I10,rv,ys,hD,hl,qN⟩=>?_) fun _ _ z=>False.elim z
        refine wpAny_mono (zdo (X:=zdc X scope cl (ts++fr.map (·.1)) fp { s2 with heap:=hp3 } (upd H2 s2.heap.objs.size (.lst []))) _ s10 τ8 H10 (.ref s2.heap.objs.size) [v] (.ref s2.heap.objs.size) [y] (fun _ H=>Nn τ8 H) I10 rfl (.cons rv .nil) ⟨_,ys,v,rfl,rfl,hD,hl,qN⟩) (fun _ s11 ⟨_,H11,I11,_,q11⟩=>again I11 q11) fun _ _ z=>False.elim z
  exact codeAny_compStart_list loop (T.self X.A 0 _ _ _ st4 loop)
end
section
variable {X:Cx} {tg:Expr}
theorem zfe (K:PySem.W.Frag) (h:X.K=K):IxR X (rIxL K):=h ▸ zwa
theorem zaz (K:PySem.W.Frag) (h:X.K=K):IxR X (rIxT K):=h ▸ zyi
theorem zlu (K:PySem.W.Frag) (h:X.K=K):SlR X (rSlL K):=h ▸ zwb
def rLen (K:PySem.W.Frag):List V->Hp->VK->Prop:=fun xs H Q=>∃ p ys,xs = [.ref p]/\(SqL K H p ys\/SqT K H p ys)/\Q (.int ys.length) H
theorem zgc (K:PySem.W.Frag) (h:X.K=K):CallR X (.builtin "len") (rLen K):=h ▸ zmu
theorem zia (K:PySem.W.Frag) (h:X.K=K) {es:List Expr} {k:Nat} {pos:Pos} {t:TGs} {n:Nat} (hc:X.calm=true) (hq:PGs X es t)
    (hn:(assignEach es X.env).length=n:=by rfl) (hst:(assignEach es X.env).findIdx? (·.1)=none:=by rfl):PG X (.Tuple es k pos) (gTup K n t):=h ▸ zye hc hq hn hst
theorem zcr (K:PySem.W.Frag) (h:X.K=K) {l:Expr} {tl:TE} (hl:PE X l tl):PI X tg l (iList K tl):=h ▸ zvu hl
end
def ClOk (env:Env):List (Str×Addr)->Prop
 | []=>True
 | p :: r=>env.cells.lookup p.1=some p.2/\ClOk env r
theorem ClOk.get {env:Env}:∀ {cl:List (Str×Addr)},ClOk env cl->∀ x c,cl.lookup x=some c->env.cells.lookup x=some c
 | [],_,x,c,e=>by cases e
 | p :: r,h,x,c,e=>by
  obtain ⟨k,a⟩:=p
  rw [List.lookup_cons] at e
  by_cases q:x=k
  ·subst q
   rw [beq_self_eq_true] at e
   cases e
   exact h.1
  ·rw [beq_eq_false_iff_ne.mpr q] at e
   exact ClOk.get h.2 x c e
def clAll (ns:List (Str×NameKind)) (cl:List (Str×Addr)):Bool:=ns.all fun y=>match y.2 with
 | .cell=>(cl.lookup y.1).isSome
 | .free=>(cl.lookup y.1).isSome
 | _=>true
theorem zmz {ns:List (Str×NameKind)} {cl:List (Str×Addr)} (h:clAll ns cl=true) (x:Str) (q:ns.lookup x=some .cell\/ns.lookup x=some .free):∃ c,cl.lookup x=some c:=by
 unfold clAll at h
 rw [List.all_eq_true] at h
 rcases q with q | q
 ·have:=h _ (PySem.mem_of_lookup q)
  exact Option.isSome_iff_exists.mp this
 ·have:=h _ (PySem.mem_of_lookup q)
  exact Option.isSome_iff_exists.mp this
theorem pe_lc {X:Cx} {elt target iter:Expr} {ifs:List Expr} {scope:Scope} {pos:Pos} {cl:List (Str×Addr)} (ts:List Str) (fr:List (Str×Nat)) {wi:TI} {g:TG} {tc:TT} {te:TE} (hcalm:X.calm=true)
    (hclos:closureFor scope X.env=pure cl) (hcell:∀ y∈scope.names,y.2≠.cell) (hkind:scope.kind = .function) (hnames:∀ y∈scope.names,y.2 = .local->scope.names.lookup y.1=some .local)
    (hcl:ClOk X.env cl) (hhas:clAll (relabel scope X.env).names cl=true) (hfr:FrOk X (relabel scope X.env) fr)
    (hi:PI X target iter wi) (hg:∀ fp s H,PG (zdc X scope cl (ts++fr.map (·.1)) fp s H) target g) (hc:∀ fp s H,PIfs (zdc X scope cl (ts++fr.map (·.1)) fp s H) ifs tc)
    (he:∀ fp s H,PE (zdc X scope cl (ts++fr.map (·.1)) fp s H) elt te) (hs:∀ x,foldedSetIterable iter X.env x=pure x:=by intro _; rfl) :
    PE X (.ListComp elt [⟨target,iter,ifs,0⟩] scope pos) (tComp ts.length fr wi g tc te) :=
  zwe hcalm hclos hcell hkind hnames hcl.get (fun x q=>zmz hhas x q) hfr hi hg hc he hs
def rSum (K:PySem.W.Frag):List V->Hp->VK->Prop:=fun xs H Q=>∃ (p:Addr) (ns:List Int),xs = [.ref p]/\SqL K H p (ns.map V.int)/\Q (.int ns.sum) H
def rAll (K:PySem.W.Frag):List V->Hp->VK->Prop:=fun xs H Q=>∃ (p:Addr) (bs:List Bool),xs = [.ref p]/\SqL K H p (bs.map V.bl)/\Q (.bl (bs.all id)) H
def rAny (K:PySem.W.Frag):List V->Hp->VK->Prop:=fun xs H Q=>∃ (p:Addr) (bs:List Bool),xs = [.ref p]/\SqL K H p (bs.map V.bl)/\Q (.bl (bs.any id)) H
theorem ztv {bs:List Bool}:∀ {us:List Value},Vals (bs.map V.bl) us->us=bs.map Value.bool:=by
 induction bs with
 | nil=>intro us r; cases r; rfl
 | cons b r ih =>
  intro us h
  cases h with
  | cons h1 h2=>rw [show _=Value.bool b from h1,ih h2]; rfl
theorem zrr {bs:List Bool} (f:Nat->Bool) (h:∀ i,i<bs.length->f i=bs.getD i false):(List.range bs.length).all f=bs.all id:=by
 rw [Bool.eq_iff_iff,List.all_eq_true,List.all_eq_true]
 constructor
 ·intro q b hb
  obtain ⟨i,hi,e⟩:=List.getElem_of_mem hb
  have:=q i (List.mem_range.mpr hi)
  rw [h i hi] at this
  rw [<- e]
  simpa [List.getD_eq_getElem?_getD,hi] using this
 ·intro q i hi
  have hi:=List.mem_range.mp hi
  rw [h i hi]
  have:=q bs[i] (List.getElem_mem hi)
  simpa [List.getD_eq_getElem?_getD,hi] using this
theorem zrs {bs:List Bool} (f:Nat->Bool) (h:∀ i,i<bs.length->f i=bs.getD i false):(List.range bs.length).any f=bs.any id:=by
 rw [Bool.eq_iff_iff,List.any_eq_true,List.any_eq_true]
 constructor
 ·rintro ⟨i,hi,q⟩
  have hi:=List.mem_range.mp hi
  rw [h i hi] at q
  exact ⟨bs[i],List.getElem_mem hi,by simpa [List.getD_eq_getElem?_getD,hi] using q⟩
 ·rintro ⟨b,hb,q⟩
  obtain ⟨i,hi,e⟩:=List.getElem_of_mem hb
  refine ⟨i,List.mem_range.mpr hi,?_⟩
  rw [h i hi]
  rw [<- e] at q
  simpa [List.getD_eq_getElem?_getD,hi] using q
section
variable {X:Cx}
theorem zna (K:PySem.W.Frag) (h:X.K=K) (hc:X.calm=true):CallR X (.builtin "sum") (rSum K):=by
 subst h
 intro pins s σ H xs us Q I r h
 obtain ⟨p,ns,rfl,hq,q⟩:=h
 obtain ⟨u,rfl,ru⟩:=vals1 r
 cases (show u=Value.ref p from ru)
 obtain ⟨its,rv,hp,hz⟩:=I.list hq
 have hi:=zqi rv
 obtain ⟨zs,e⟩:=hi.allInts.items
 have hl:=hp.isList
 rw [e] at hl
 refine sum_intListG (I.ok.hd hc) hl fun h' tk t' hk=>⟨.int ns.sum,H,I.kept (t':=tk) hk,⟨t',?_⟩,q⟩
 rw [preSum_eq,List.take_of_length_le (by simp)]
 have:=hi.numsOf
 rw [show its=its.toArray.toList from rfl,e,nums_intItems] at this
 rw [<- this]
theorem zlh {pins:List (Addr×Obj)} {s:Shared} {σ:St} {H:Hp} {p:Addr} {bs:List Bool} {Q:Value->Shared->Prop} (I:Inv X pins σ H s) (hc:X.calm=true) (hq:SqL X.K H p (bs.map V.bl))
    (h:∀ s₂:Shared,(∀ (h':Heap) (tk:Nat),(∀ b o,b ∉ [s.heap.objs.size]->s₂.heap.get? b=some o->h'.get? b=some o)->Inv X pins σ H { s₂ with heap:=h',toks:=tk }) ->
      (s₂.heap.IsListIter s.heap.objs.size p 0/\s₂.heap.IsList p (bs.map Value.bool).toArray)->p≠s.heap.objs.size->Q (.ref s.heap.objs.size) s₂) (E:Value->Shared->Prop) :
    wpAny (model X.prog X.w) X.A.in1 (pyIter (.ref p)) Q E s:=by
  obtain ⟨its,rv,hp,hz⟩:=I.list hq
  rw [ztv rv] at hp
  have hl:=hp.isList
  have hlt:p<s.heap.objs.size:=by obtain ⟨_,e,_⟩:=id hl; exact Heap.lt_size e
  refine wpAny_pyIter_list hl (h _ (fun h' tk hk=>I.kept (t':=tk) fun b o e=>?_) ⟨⟨_,Heap.get?_push_size _ rfl,rfl,rfl⟩,hl.push _⟩ (Nat.ne_of_lt hlt))
  exact hk b o (by simp [Nat.ne_of_lt (Heap.lt_size e)]) (Heap.get?_push_of_some _ e)
theorem zjq {A:Around} {bs:List Bool}:TruthOf X.prog X.w A (fun i v=>(bs.map Value.bool).toArray[i]? = some v) (fun i=>bs.getD i false):=by
 intro i v s Q E hP hQ
 have e:bs[i]?.map Value.bool=some v:=by simpa using hP
 cases q:bs[i]? with
 | none=>rw [q] at e; cases e
 | some b =>
  rw [q] at e
  cases e
  dsimp only at hQ
  rw [List.getD_eq_getElem?_getD,q] at hQ
  exact wpAny_truthy_bool hQ
theorem zrt (K:PySem.W.Frag) (h:X.K=K) (hc:X.calm=true):CallR X (.builtin "all") (rAll K):=by
 subst h
 intro pins s σ H xs us Q I r h
 obtain ⟨p,bs,rfl,hq,q⟩:=h
 obtain ⟨u,rfl,ru⟩:=vals1 r
 cases (show u=Value.ref p from ru)
 refine call_all_walk (zlh I hc hq (fun s₂ J st hne=>⟨_,_,_,_,_,_,_,rfl,Walks.list (A:=X.A.in1) (I.ok.hd hc) _ p hne _,st,zjq,fun h' tk hk=>⟨.bl _,H,J h' tk hk,?_,q⟩⟩) _)
 show Value.bool _=Value.bool _
 congr 1
 rw [List.size_toArray,List.length_map]
 exact zrr _ fun i hi=>rfl
theorem zru (K:PySem.W.Frag) (h:X.K=K) (hc:X.calm=true):CallR X (.builtin "any") (rAny K):=by
 subst h
 intro pins s σ H xs us Q I r h
 obtain ⟨p,bs,rfl,hq,q⟩:=h
 obtain ⟨u,rfl,ru⟩:=vals1 r
 cases (show u=Value.ref p from ru)
 refine call_any_walk (zlh I hc hq (fun s₂ J st hne=>⟨_,_,_,_,_,_,_,rfl,Walks.list (A:=X.A.in1) (I.ok.hd hc) _ p hne _,st,zjq,fun h' tk hk=>⟨.bl _,H,J h' tk hk,?_,q⟩⟩) _)
 show Value.bool _=Value.bool _
 congr 1
 rw [List.size_toArray,List.length_map]
 exact zrs _ fun i hi=>rfl
end
def CompG (J:It) (g:TG) (tc:TT) (te:TE) (D:Addr) (τ:St) (H:Hp) (Q:VK):Prop :=
 ∃ W:Nat->Nat->St->Hp->Prop,(∃ m,W 0 m τ H)/\∀ i m τ H',W i m τ H' ->
  (J.stop i H'/\Q (.ref D) H')\/(J.go i H'/\∃ N:St->Hp->Prop,(∀ τ' H'',N τ' H''->∃ m',m' < m/\W (i+1) m' τ' H'') /\
   ∀ x H2,J.yld i H' x H2->g x τ H2 fun τ2 H3=>tc τ2 H3 fun b H4=>if b=true then te τ2 H4 fun y H5=>∃ ys,H5 D=some (.lst ys)/\ys.length<sizeLine/\N τ2 (upd H5 D (.lst (ys++[y]))) else N τ2 H4)
theorem tComp_eq {nt:Nat} {fr:List (Str×Nat)} {wi:TI} {g:TG} {tc:TT} {te:TE} {σ:St} {H:Hp} {Q:VK} :
    tComp nt fr wi g tc te σ H Q=wi σ H fun J H1=>∀ D,H1 D=none->CompG J g tc te D (List.replicate nt none++fr.map fun p=>(σ[p.2]?).join) (upd H1 D (.lst [])) Q:=rfl
theorem zei {K:PySem.W.Frag} {a:Addr} {xs:List V} {g:TG} {tc:TT} {te:TE} {D:Addr} {τ:St} {H:Hp} {Q:VK} (Pv:Nat->St->Hp->Prop) (h0:Pv 0 τ H) (hl:∀ i τ H,i<=xs.length->Pv i τ H->SqL K H a xs)
    (hs:∀ i x τ H,xs[i]? = some x->Pv i τ H->g x τ H fun τ2 H3=>tc τ2 H3 fun b H4=>if b=true then te τ2 H4 fun y H5=>∃ ys,H5 D=some (.lst ys)/\ys.length<sizeLine/\Pv (i+1) τ2 (upd H5 D (.lst (ys++[y]))) else Pv (i+1) τ2 H4)
    (hd:∀ τ H,Pv xs.length τ H->Q (.ref D) H) :
    CompG (Itl K a) g tc te D τ H Q:=by
  refine ⟨fun i m τ H=>m=xs.length-i/\i<=xs.length/\Pv i τ H,⟨xs.length,by simp,Nat.zero_le _,h0⟩,?_⟩
  rintro i m τ H ⟨rfl,hi,p⟩
  have q:=hl i τ H hi p
  by_cases hlt:i<xs.length
  · refine .inr ⟨⟨xs,xs[i],q,by simp [hlt]⟩,Pv (i+1),fun τ' H' p'=>⟨xs.length-(i+1),by omega,rfl,hlt,p'⟩,fun x H2 z=>?_⟩
    obtain ⟨rfl,hx⟩:=z
    exact hs i x τ H2 (hx xs q) p
  · have e:i=xs.length:=by omega
    subst e
    exact .inl ⟨⟨xs,q,Nat.le_refl _⟩,hd τ H p⟩
theorem zhb {α:Type} {xs:List α} {i:Nat} {x:α} (h:xs[i]? = some x):xs.take (i+1)=xs.take i++[x]:=by
 rw [List.take_add_one,h]; rfl
theorem zrv {K:PySem.W.Frag} {a:Addr} {xs:List V} {g:TG} {tc:TT} {te:TE} {D:Addr} {v0:Option V} {caps:St} {H:Hp} {Q:VK} (F:V->Option V) (hD:H D=none) (hS:SqL K H a xs) (hlen:xs.length<=1000)
    (hs:∀ x∈xs,∀ (v:Option V) (H':Hp) (C:V->St->Hp->Prop) (N:St->Hp->Prop),Same H H'->(∀ y,F x=some y->C y (some x :: caps) H')->(F x=none->N (some x :: caps) H') ->
      g x (v :: caps) H' fun τ2 H3=>tc τ2 H3 fun b H4=>if b=true then te τ2 H4 fun y H5=>C y τ2 H5 else N τ2 H4)
    (hd:Q (.ref D) (upd H D (.lst (xs.filterMap F)))) :
    CompG (Itl K a) g tc te D (v0 :: caps) (upd H D (.lst [])) Q:=by
  refine zei (xs:=xs) (fun i τ H'=>(∃ v,τ = v :: caps)/\H'=upd H D (.lst ((xs.take i).filterMap F))) ⟨⟨_,rfl⟩,by simp⟩ (fun i τ H' _ ⟨_,e⟩=>by rw [e]; exact (zap hD).seq hS) ?_ ?_
  · rintro i x τ H' hx ⟨⟨v,rfl⟩,rfl⟩
    have hi:i<xs.length:=(List.getElem?_eq_some_iff.mp hx).1
    refine hs x (List.mem_of_getElem? hx) v _ (fun y τ2 H5=>∃ ys,H5 D=some (.lst ys)/\ys.length<sizeLine/\(∃ v,τ2=v :: caps)/\upd H5 D (.lst (ys++[y]))=upd H D (.lst ((xs.take (i+1)).filterMap F)))
      (fun τ2 H4=>(∃ v,τ2=v :: caps)/\H4=upd H D (.lst ((xs.take (i+1)).filterMap F))) (zap hD) (fun y e=>?_) fun e=>?_
    · refine ⟨_,zac,line_lt ?_,⟨_,rfl⟩,?_⟩
      · have:=List.length_filterMap_le F (xs.take i)
        rw [List.length_take] at this
        omega
      · rw [zex,zhb hx,List.filterMap_append]; simp [e]
    · refine ⟨⟨_,rfl⟩,?_⟩
      rw [zhb hx,List.filterMap_append]; simp [e]
  · rintro τ H' ⟨_,rfl⟩
    rw [List.take_length]; exact hd
abbrev Q4:=Int×Int×Int×Int
def q4 (q:Q4):List V:=[.int q.1,.int q.2.1,.int q.2.2.1,.int q.2.2.2]
theorem zrw (ns:List Int) (lo hi:Option Int):∃ ms:List Int,cutV (ns.map V.int) lo hi=ms.map V.int/\ms.length<=ns.length:=by
 refine ⟨(ns.drop (HT.sIx (ns.map V.int).length 0 lo)).take (HT.sIx (ns.map V.int).length (ns.map V.int).length hi-HT.sIx (ns.map V.int).length 0 lo),?_,?_⟩
 ·unfold cutV; rw [List.map_take,List.map_drop]
 ·rw [List.length_take,List.length_drop]; omega
mutual
theorem zpd:∀ d:PyData,d.canLay0=true->PyData.eqv d d=true
 | .none,_=>rfl
 | .bool b,_=>by simp [PyData.eqv]
 | .int i,_=>by simp [PyData.eqv]
 | .str x,_=>by simp [PyData.eqv]
 | .list xs,h=>by
  have h:PyData.canLayAll0 xs=true:=by simpa only [PyData.canLay0] using h
  simpa only [PyData.eqv] using zgp xs h
 | .tuple xs,h=>by
  have h:PyData.canLayAll0 xs=true:=by simpa only [PyData.canLay0] using h
  simpa only [PyData.eqv] using zgp xs h
 | .dict _,h=>by simp [PyData.canLay0] at h
theorem zgp:∀ ds:List PyData,PyData.canLayAll0 ds=true->PyData.eqvAll ds ds=true
 | [],_=>rfl
 | d :: r,h=>by
  simp only [PyData.canLayAll0,Bool.and_eq_true] at h
  simp only [PyData.eqvAll,Bool.and_eq_true]
  exact ⟨zpd d h.1,zgp r h.2⟩
end
section
variable {X:Cx}
theorem zwf (K:PySem.W.Frag) (h:X.K=K) (hu:X.A.units+64<cLine):OpR X (compareOp .NotEq) (rNeD K):=h ▸ zyr hu
end
theorem ne_at {K:PySem.W.Frag} {H:Hp} {x y:V} {d e:PyData} {Q:VK} (hx:Deep K H x d) (hy:Deep K H y e) (sd:PySem.SeqAt.shaped d=true) (se:PySem.SeqAt.shaped e=true) (q:Q (.bl (!PyData.eqv d e)) H):rNeD K x y H Q:=⟨d,e,hx,hy,sd,se,q⟩
theorem zwg {K:PySem.W.Frag} {H:Hp} {x y:V} {d:PyData} {Q:VK} (hx:Deep K H x d) (hy:Deep K H y d) (sd:PySem.SeqAt.shaped d=true) (q:Q (.bl false) H):rNeD K x y H Q:=by
 refine ne_at hx hy sd sd ?_
 rw [zpd d (PySem.SeqAt.canLay_of_shaped sd)]; exact q
theorem zpe {K:PySem.W.Frag} {H:Hp} {p:Addr} {ys:List V} {Q:VK} (h:SqL K H p ys) (q:Q (.int ys.length) H):rLen K [.ref p] H Q:=⟨p,ys,rfl,.inl h,q⟩
theorem zrx {K:PySem.W.Frag} {H:Hp} {p:Addr} {xs:List V} {lo hi:Option Int} {Q:VK} (h:SqL K H p xs) (q:∀ l,H l=none->Q (.ref l) (upd H l (.lst (cutV xs lo hi)))):rSlL K (.ref p) lo hi H Q:=⟨p,xs,rfl,h,q⟩
section
variable {prog:Program} {w:World} {A:Around} {R:Result->Shared->Prop}
def zys (ns:List Int) (j:Nat) (buf:Array Value):Prop:=(j = 0/\buf = #[])\/∃ m t,buf = #[.int m t,.int m t]/\m∈ns.take j/\∀ n∈ns.take j,n<=m
def zvf (ns:List Int) (d v:Value):Prop:=(ns = []/\v=d)\/∃ m t,v = .int m t/\m∈ns/\∀ n∈ns,n<=m
theorem zpf {ns:List Int} {its:List Value} (r:Vals (ns.map V.int) its) {j:Nat} {v:Value} (h:its.toArray[j]? = some v):∃ n t,ns[j]? = some n/\v = .int n t:=by
 have hj:j<its.length:=by
  have:=(Array.getElem?_eq_some_iff.mp h).1
  simpa using this
 have hl:=r.length
 rw [List.length_map] at hl
 have e:(ns.map V.int)[j]? = some (V.int ns[j]):=by simp [hl ▸ hj]
 obtain ⟨u,hu,t,ru⟩:=r.get e
 have:its[j]? = some v:=by simpa using h
 rw [this] at hu
 cases hu
 exact ⟨ns[j],t,by simp [hl ▸ hj],ru⟩
theorem ztw {l it S:Addr} {ns:List Int} {its:List Value} {d:Value} (hh:A.handled=none) (hli:l≠it) (hSi:S≠it) (hSl:S≠l) (rv:Vals (ns.map V.int) its) :
    ∀ (k j:Nat) (s:Shared) (buf:Array Value) (c:Nat),its.length-j=k->j<=its.length->s.heap.IsListIter it l j->s.heap.IsList l its.toArray->zys ns j buf ->
    s.heap.get? S=some { cls:=.type "list", dict:=none,data:=.seq buf c,slots:=#[] } ->
    (∀ v h' tk,zvf ns d v->(∀ b o,b≠it->b≠S->s.heap.get? b=some o->h'.get? b=some o)->R (.ok (.ret v)) { s with heap:=h',toks:=tk }) ->
    codeAny (model prog w) A (.builtin "max.loop" ⟨[.ref it,.none,.ref S],[("default", d)]⟩) R s:=by
  have hlen:ns.length=its.length:=by have:=rv.length; rwa [List.length_map] at this
  have nm:(toString "max" ++ toString ".loop" : String) = "max.loop" := by decide
  intro k
  induction k with
  | zero =>
    intro j s buf c hk hj hit hls hb hbuf fin
    have ej:j=its.length:=by omega
    refine codeAny_builtin F.entry_max_loop ?_
    rw [Around.under_plainId F.plain_max_loop _]
    show wpAny _ A.in1 (seqItems? (.ref S) >>= _) _ _ s
    refine wpAny_bind (wpAny_seqItems hbuf rfl ?_)
    show wpAny _ A.in1 (tryCatch (pyNext (.ref it)) _ >>= _) _ _ s
    refine wpAny_bind (wpAny_tryCatch (wpAny_pyNext_list_end (A:=A.in1) hh hit hls (by simp [ej]) fun h' ek=>?_))
    have hb':=ek S _ hSi hbuf
    rcases hb with ⟨e0,rfl⟩ | ⟨m,t,rfl,hm,hall⟩
    · refine wpAny_bind (wpAny_rule (wpAny_pure ?_))
      refine fin d h' s.toks (.inl ⟨List.length_eq_zero_iff.mp (by omega),rfl⟩) fun b o n1 _ e=>ek b o n1 e
    · show wpAny _ A.in1 (updateSeq S (fun _=>#[]) >>= _) _ _ _
      refine wpAny_bind (wpAny_updateSeq hb' rfl (wpAny_bind (wpAny_letGo (wpAny_pure ?_))))
      rw [List.take_of_length_le (by omega)] at hm hall
      exact fin _ _ s.toks (.inr ⟨m,t,rfl,hm,hall⟩) fun b o n1 n2 e=>(Heap.get?_update_other _ _ (Ne.symm n2)).trans (ek b o n1 e)
  | succ k ih =>
    intro j s buf c hk hj hit hls hb hbuf fin
    have hlt:j<its.length:=by omega
    refine codeAny_builtin F.entry_max_loop ?_
    rw [Around.under_plainId F.plain_max_loop _]
    show wpAny _ A.in1 (seqItems? (.ref S) >>= _) _ _ s
    refine wpAny_bind (wpAny_seqItems hbuf rfl ?_)
    show wpAny _ A.in1 (tryCatch (pyNext (.ref it)) _ >>= _) _ _ s
    have hv:its.toArray[j]? = some its[j]:=by simp [hlt]
    refine wpAny_bind (wpAny_tryCatch (wpAny_pyNext_list_item hit hls hv fun h' hit' hs'=>?_))
    obtain ⟨n,t,en,ev⟩:=zpf rv hv
    rw [ev]
    have hb':=hs'.extBut S _ hSi hbuf
    have hls':h'.IsList l its.toArray:=hls.extBut hs'.extBut hli
    have step:∀ (m:Int) (tt:Tok) (s2:Shared) (c2:Nat),s2.heap.IsListIter it l (j+1)->s2.heap.IsList l its.toArray->s2.heap.get? S=some { cls:=.type "list", dict:=none,data:=.seq #[.int m tt,.int m tt] c2,slots:=#[] } ->
        m∈ns.take (j+1)->(∀ z∈ns.take (j+1),z<=m)->(∀ b o,b≠it->b≠S->s.heap.get? b=some o->s2.heap.get? b=some o)->s2.gens=s.gens->s2.drawn=s.drawn->s2.os=s.os ->
        codeAny (model prog w) A (.builtin "max.loop" ⟨[.ref it,.none,.ref S],[("default", d)]⟩) R s2:=fun m tt s2 c2 i1 i2 i3 i4 i5 i6 g1 g2 g3=>by
      refine ih (j+1) s2 _ c2 (by omega) hlt i1 i2 (.inr ⟨m,tt,rfl,i4,i5⟩) i3 fun v h'' tk'' r1 r2=>?_
      have:=fin v h'' tk'' r1 fun b o n1 n2 e=>r2 b o n1 n2 (i6 b o n1 n2 e)
      obtain ⟨q1,q2,q3,q4,q5⟩:=s2
      obtain ⟨p1,p2,p3,p4,p5⟩:=s
      cases g1; cases g2; cases g3
      exact this
    have etake:=zhb en
    have upd_keep:∀ (g:Obj->Obj) b o,b≠it->b≠S->s.heap.get? b=some o->(h'.update S g).get? b=some o:=fun g b o n1 n2 e=>(Heap.get?_update_other _ _ (Ne.symm n2)).trans (hs'.extBut b o n1 e)
    rcases hb with ⟨e0,rfl⟩ | ⟨m,t0,rfl,hm,hall⟩
    · show wpAny _ A.in1 (updateSeq S (fun _=>_) >>= _) _ _ _
      refine wpAny_bind (wpAny_updateSeq hb' rfl ?_)
      rw [nm]
      refine wpAny_pure ⟨plainId_quiet F.plain_max_loop _,step n t _ _ (hit'.at fun o e=>(Heap.get?_update_other _ _ hSi).trans e) (hls'.at fun o e=>(Heap.get?_update_other _ _ hSl).trans e) (Heap.get?_update_self _ hb' rfl) ?_ ?_ (upd_keep _) rfl rfl rfl⟩
      · rw [etake]; simp
      · rw [etake,e0]; simp
    · show wpAny _ A.in1 (tryCatch (holding [.int n t,.int n t] (richCompare .Gt (.int n t) (.int m t0) >>= _)) _ >>= _) _ _ _
      refine wpAny_bind (wpAny_tryCatch (wpAny_holding (wpAny_bind (richCompare_gives (op:=.Gt) (typeIs_int _ _ t) (typeIs_int _ _ t0) F.slot_int_gt F.entry_int_gt (F.args_int_gt_2 _ _) (gives_int_gt _ _ t t0) (fun x=>nomatch x) ?_))))
      refine wpAny_bind (wpAny_holding (wpAny_truthy_bool (wpAny_bind (wpAny_letGo (wpAny_pure ?_)))))
      by_cases hgt:n > m
      · simp only [hgt,decide_true,if_true]
        refine wpAny_bind (wpAny_updateSeq hb' rfl (wpAny_bind (wpAny_letGo ?_)))
        rw [nm]
        refine wpAny_pure ⟨plainId_quiet F.plain_max_loop _,step n t _ _ (hit'.at fun o e=>(Heap.get?_update_other _ _ hSi).trans e) (hls'.at fun o e=>(Heap.get?_update_other _ _ hSl).trans e) (Heap.get?_update_self _ hb' rfl) ?_ ?_ (upd_keep _) rfl rfl rfl⟩
        · rw [etake]; simp
        · rw [etake]
          intro z hz
          rcases List.mem_append.mp hz with hz | hz
          · have:=hall z hz; omega
          · have:z=n:=by simpa using hz
            omega
      · simp only [hgt,decide_false,Bool.false_eq_true,if_false]
        refine wpAny_bind (wpAny_letGo ?_)
        rw [nm]
        refine wpAny_pure ⟨plainId_quiet F.plain_max_loop _,step m t0 _ c hit' hls' hb' ?_ ?_ (fun b o n1 _ e=>hs'.extBut b o n1 e) rfl rfl rfl⟩
        · rw [etake]; exact List.mem_append_left _ hm
        · rw [etake]
          intro z hz
          rcases List.mem_append.mp hz with hz | hz
          · exact hall z hz
          · have:z=n:=by simpa using hz
            omega
theorem zry (a d:Value):argsOk "max" ⟨[a],[("default", d)]⟩:=by unfold argsOk; kernel_rfl
theorem zrz {E:Value->Shared->Prop} {s:Shared} {l:Addr} {ns:List Int} {its:List Value} {d:Value} {Q:Value->Shared->Prop} (hh:A.handled=none) (hl:s.heap.IsList l its.toArray) (rv:Vals (ns.map V.int) its)
    (h:∀ v h' tk,zvf ns d v->(∀ b o,s.heap.get? b=some o->h'.get? b=some o)->Q v { s with heap:=h',toks:=tk }) :
    wpAny (model prog w) A (call (.builtin "max") [.ref l] [("default", d)]) Q E s:=by
  have nm:(toString "max" ++ toString ".loop" : String) = "max.loop" := by decide
  refine wpAny_call (codeAny_call_builtin F.plain_max F.entry_max ?_)
  have ca:checkBuiltinCall "max" ⟨[.ref l],[("default", d)]⟩ = pure ():=by
    simp only [checkBuiltinCall,F.kind_max]
    cases hsig:Manifest.signature? "max" with
    | none=>rfl
    | some sig =>
      have ha:=zry (.ref l) d
      simp only [argsOk,hsig] at ha
      exact ha
  rw [ca]
  refine wpAny_pure ?_
  show wpAny _ A.in1 (Builtin.Builtins.bindParams "max" ["key", "default"] 0 ⟨[],[("default", d)]⟩ >>= _) _ _ s
  refine wpAny_bind (wpAny_of_eq (show Builtin.Builtins.bindParams "max" ["key", "default"] 0 ⟨[],[("default", d)]⟩ = pure [none,some d] from rfl) ?_)
  refine wpAny_bind (wpAny_pure ?_)
  have hlt:l<s.heap.objs.size:=by obtain ⟨_,e,_⟩:=id hl; exact Heap.lt_size e
  refine wpAny_bind (wpAny_pyIter_list hl ?_)
  refine wpAny_bind (wpAny_newObj_type ?_)
  rw [nm]
  have kp:∀ (x y:Obj) b o,s.heap.get? b=some o->((s.heap.push x).push y).get? b=some o:=fun x y b o e=>Heap.get?_push_of_some _ (Heap.get?_push_of_some _ e)
  refine wpAny_pure ⟨plainId_quiet F.plain_max_loop _,?_⟩
  refine ztw (it:=s.heap.objs.size) (S:=(s.heap.push _).objs.size) hh (Nat.ne_of_lt hlt) (by rw [Heap.size_push]; exact Nat.succ_ne_self _) (by rw [Heap.size_push]; exact Nat.ne_of_gt (Nat.lt_succ_of_lt hlt)) rv its.length 0 _ #[] 0 rfl (Nat.zero_le _)
    ⟨_,Heap.get?_push_of_some _ (Heap.get?_push_size _ rfl),rfl,rfl⟩ (hl.at fun o e=>kp _ _ _ _ e) (.inl ⟨rfl,rfl⟩) (Heap.get?_push_size _ rfl) fun v h' tk r1 r2=>?_
  refine h v h' tk r1 fun b o e=>r2 b o (Nat.ne_of_lt (Heap.lt_size e)) (Nat.ne_of_lt ?_) (kp _ _ _ _ e)
  rw [Heap.size_push]; exact Nat.lt_succ_of_lt (Heap.lt_size e)
end
def tMaxD (K:PySem.W.Frag) (t:TA) (td:TE):TE:=fun σ H Q=>t σ H fun xs H1=>td σ H1 fun y H2=>∃ (p:Addr) (ns:List Int) (d:Int),xs = [.ref p]/\y = .int d/\SqL K H2 p (ns.map V.int) /\
 ∀ m,(ns = []->m=d)->(ns≠[]->m∈ns/\∀ n∈ns,n<=m)->Q (.int m) H2
theorem zwh {X:Cx} (K:PySem.W.Frag) (hK:X.K=K) (hc:X.calm=true) {l d:Expr} {t:TA} {td:TE} {p pos kpos:Pos} (hg:Gl X "max") (hm:X.mg "max" = none) (hl:PA X [l] t) (hd:PE X d td)
    (he:starEach [l] X.env = [(false,eval l X.env)]:=by rfl) :
    PE X (.Call (.Name "max" p) [l] [⟨some "default", d,kpos⟩] pos) (tMaxD K t td):=by
  subst hK
  intro pins s σ H Q I h
  refine wpAny_Call_Name_kw (zow I hg hm boot_max ?_)
  refine callWith_kw (he:=by rw [he]; rfl) (hplain:=by rw [he]; rfl) ?_
  refine thn (hl pos pins s σ H _ I h) fun us s1 ⟨xs,H1,I1,r1,q1⟩=>?_
  refine kws_cons (thn (hd pins s1 σ H1 _ I1 q1) fun y s2 ⟨yv,H2,I2,r2,q2⟩=>kws_nil ?_)
  obtain ⟨a,ns,dd,rfl,rfl,hq,fin⟩:=q2
  obtain ⟨u,rfl,ru⟩:=vals1 r1
  cases (show u=Value.ref a from ru)
  obtain ⟨t2,rfl⟩:=(show ∃ t,y=Value.int dd t from r2)
  obtain ⟨its,rv,hp,hz⟩:=I2.list hq
  refine zrz (I2.ok.hd hc) hp.isList rv fun v h' tk r k=>?_
  rcases r with ⟨e,rfl⟩ | ⟨m,t3,rfl,e1,e2⟩
  · exact ⟨.int dd,H2,I2.kept (t':=tk) k,⟨_,rfl⟩,fin dd (fun _=>rfl) fun z=>absurd e z⟩
  · exact ⟨.int m,H2,I2.kept (t':=tk) k,⟨_,rfl⟩,fin m (fun z=>by rw [z] at e1; cases e1) fun _=>⟨e1,e2⟩⟩
def XTr (B:Heap) (e:Addr) (h:Heap) (vs:Array Value):Option Value->Prop
 | none=>vs[1]? = some Value.none
 | some f=>∃ T oT ts,vs[1]? = some (.ref T)/\B.get? T=none/\T≠e/\h.get? T=some oT/\oT.data = .fields ts/\ts[3]? = some f
structure XAt (B:Heap) (e:Addr) (cls:Value) (dct:Option Addr) (fl:Option Value) (h:Heap):Prop where
 stay:B.StaysIn h
 new:B.get? e=none
 ex:∃ oe vs,h.get? e=some oe/\oe.cls=cls/\oe.dict=dct/\oe.data = .fields vs/\1<vs.size/\XTr B e h vs fl
structure UpS (h h':Heap):Prop where
 sl:∀ b o,h.get? b=some o->(∀ vs,o.data≠.fields vs)->∃ sl,h'.get? b=some { o with slots:=sl }
 th:∀ b o,h.get? b=some o->∃ o',h'.get? b=some o'
theorem UpS.trans {h h1 h2:Heap} (a:UpS h h1) (b:UpS h1 h2):UpS h h2:=by
 refine ⟨fun c o e n=>?_,fun c o e=>?_⟩
 ·obtain ⟨s1,e1⟩:=a.sl c o e n
  obtain ⟨s2,e2⟩:=b.sl c _ e1 n
  exact ⟨s2,e2⟩
 ·obtain ⟨o1,e1⟩:=a.th c o e
  exact b.th c o1 e1
theorem UpS.funs {h h' B:Heap} {l:List Env} (u:UpS h h') (f:h.FunFrames B l):h'.FunFrames B l:=f.of_keeps fun b o e n=>by
 obtain ⟨sl,q⟩:=u.sl b o e n
 exact ⟨_,q,rfl⟩
section
variable {M:Model} {A:Around} {E:Value->Shared->Prop} {s:Shared} {B:Heap} {env:Env} {outer:List Env} {L e:Addr} {cls:Value} {dct:Option Addr}
theorem zpg {fl:Option Value} {head:Value} {b1:Bool} {Q:Unit->Shared->Prop} (fr:A.frames=some (env :: outer)) (ff:s.heap.FunFrames B (env :: outer)) (hf:env.frame=some L) (x:XAt B e cls dct fl s.heap)
    (h:∀ h',XAt B e cls dct (some (rawInt L)) h'->UpS s.heap h'->Q () { s with heap:=h' }) :
    wpAny M A (do let a <- frameOf env; let pl <- entryPlaceOf L b1; let b <- EntryCells.newEntry head a .none (rawInt L) .none pl; setField (.ref e) 1 b) Q E s:=by
  obtain ⟨stay,new,oe,vs,oe1,oe2,oe3,oe4,oe5,_⟩:=x
  have nf:e ∉ (env :: outer).filterMap (·.frame):=fun z=>by
    obtain ⟨_,o,q,n⟩:=ff.mem z
    rw [oe1] at q
    cases q
    exact n vs oe4
  refine wpAny_bind (wpAny_frameOf_fun fr ff hf fun h1 sl=>wpAny_bind (wpAny_entryPlaceOf fun pl ip=>?_))
  have e1:h1.get? e=some oe:=(sl.2.1 e nf).trans oe1
  have st1:B.StaysIn h1:=fun b o q=>(sl.2.1 b fun z=>by rw [(ff.mem z).1] at q; cases q).trans (stay b o q)
  unfold EntryCells.newEntry newFields
  refine wpAny_bind (wpAny_newObj_type ?_ (ip.sizeOk5 _ _ _ _ _))
  generalize hT:({ cls:=.type "traceback", dict:=none,data:=.fields ([head,.ref L,.none,rawInt L,.none]++(if pl.isEmpty then List.replicate 6 Value.none else pl)).toArray }:Obj)=oT
  have e2:(h1.push oT).get? e=some oe:=Heap.get?_push_of_some _ e1
  have ne:h1.objs.size≠e:=Nat.ne_of_gt (Heap.lt_size e1)
  refine wpAny_setField e2 oe4 oe5 (h _ ⟨fun b o q=>?_,new,_,_,Heap.get?_update_self _ e2 (Obj.isFreed_of_fields (Obj.data_mapFields oe4 _)),(Obj.cls_mapFields _ _).trans oe2,?_,Obj.data_mapFields oe4 _,by simpa using oe5,h1.objs.size,oT,_,by simp [oe5],st1.fresh,ne,?_,by rw [<- hT],?_⟩ ⟨fun b o q n=>?_,fun b o q=>?_⟩)
  · rw [Heap.get?_update_other _ _ fun z=>by rw [<- z,new] at q; cases q]
    exact Heap.get?_push_of_some _ (st1 b o q)
  · rw [<- oe3]; cases oe with | mk c d da sl=>cases da <;> rfl
  · rw [Heap.get?_update_other _ _ (Ne.symm ne)]
    exact Heap.get?_push_size _ (by rw [<- hT]; rfl)
  · rcases ip with rfl | ⟨_,_,_,_,_,_,_,rfl⟩ <;> simp
  · obtain ⟨s1,q1⟩:=sl.2.2 b o q
    refine ⟨s1,?_⟩
    rw [Heap.get?_update_other _ _ fun z=>by rw [<- z,oe1] at q; cases q; exact n vs oe4]
    exact Heap.get?_push_of_some _ q1
  · by_cases z:b=e
    · rw [z]; exact ⟨_,Heap.get?_update_self _ e2 (Obj.isFreed_of_fields (Obj.data_mapFields oe4 _))⟩
    · obtain ⟨s1,q1⟩:=sl.2.2 b o q
      exact ⟨_,(Heap.get?_update_other _ _ (Ne.symm z)).trans (Heap.get?_push_of_some _ q1)⟩
theorem zwi {f:Value} {Q:Unit->Shared->Prop} (x:XAt B e cls dct (some f) s.heap) (h:∀ h',XAt B e cls dct (some .none) h'->UpS s.heap h'->Q () { s with heap:=h' }):wpAny M A (setFlight (.ref e) none) Q E s:=by
 obtain ⟨stay,new,oe,vs,oe1,oe2,oe3,oe4,oe5,T,oT,ts,t1,t2,t3,t4,t5,t6⟩:=x
 unfold setFlight
 refine wpAny_bind (wpAny_field oe1 oe4 t1 ?_)
 rw [if_pos (show (Value.ref T != Value.none)=true by simp)]
 have h3:3<ts.size:=(Array.getElem?_eq_some_iff.mp t6).1
 have oth:∀ (g:Obj->Obj) b,b≠T->(s.heap.update T g).get? b=s.heap.get? b:=fun g b z=>Heap.get?_update_other _ _ (Ne.symm z)
 refine wpAny_setField t4 t5 h3 (h _ ⟨fun b o q=>?_,new,oe,vs,by rw [oth _ _ (Ne.symm t3)]; exact oe1,oe2,oe3,oe4,oe5,T,_,_,t1,t2,t3,Heap.get?_update_self _ t4 (Obj.isFreed_of_fields (Obj.data_mapFields t5 _)),Obj.data_mapFields t5 _,by simp [h3]⟩ ⟨fun b o q n=>⟨o.slots,?_⟩,fun b o q=>?_⟩)
 ·rw [oth _ _ fun z=>by rw [z,t2] at q; cases q]
  exact stay b o q
 ·rw [oth _ _ fun z=>by rw [z,t4] at q; cases q; exact n ts t5]
  exact q
 ·by_cases z:b=T
  ·rw [z]; exact ⟨_,Heap.get?_update_self _ t4 (Obj.isFreed_of_fields (Obj.data_mapFields t5 _))⟩
  ·exact ⟨o,(oth _ _ z).trans q⟩
theorem zwj {fl:Option Value} {Q:Unit->Shared->Prop} (fr:A.frames=some (env :: outer)) (ff:s.heap.FunFrames B (env :: outer)) (hf:env.frame=some L) (x:XAt B e cls dct fl s.heap) (hfl:fl=none\/fl=some .none)
    (h:∀ h',XAt B e cls dct (some (rawInt L)) h'->UpS s.heap h'->Q () { s with heap:=h' }):wpAny M A (noteFrame (.ref e) env) Q E s:=by
  have x0:=x
  obtain ⟨stay,new,oe,vs,oe1,oe2,oe3,oe4,oe5,tr⟩:=x
  unfold noteFrame
  simp only [hf]
  rcases hfl with rfl | rfl
  · refine wpAny_bind (wpAny_field oe1 oe4 tr ?_)
    rw [if_neg (by decide)]
    exact zpg fr ff hf x0 h
  · obtain ⟨T,oT,ts,t1,t2,t3,t4,t5,t6⟩:=tr
    refine wpAny_bind (wpAny_field oe1 oe4 t1 ?_)
    rw [if_pos (show (Value.ref T != Value.none)=true by simp)]
    refine wpAny_bind (wpAny_field t4 t5 t6 ?_)
    rw [if_neg (show ¬ ((Value.none == rawInt L)=true) by simp [rawInt])]
    have h3:3<ts.size:=(Array.getElem?_eq_some_iff.mp t6).1
    have oth:∀ (g:Obj->Obj) b,b≠T->(s.heap.update T g).get? b=s.heap.get? b:=fun g b z=>Heap.get?_update_other _ _ (Ne.symm z)
    have up:∀ g,UpS s.heap (s.heap.update T (Obj.mapFields g)):=fun g=>⟨fun b o q n=>⟨o.slots,by
      rw [oth _ _ fun z=>by rw [z,t4] at q; cases q; exact n ts t5]; exact q⟩,fun b o q=>by
      by_cases z:b=T
      · rw [z]; exact ⟨_,Heap.get?_update_self _ t4 (Obj.isFreed_of_fields (Obj.data_mapFields t5 _))⟩
      · exact ⟨o,(oth _ _ z).trans q⟩⟩
    refine wpAny_bind (wpAny_setField t4 t5 h3 ?_)
    refine zpg (fl:=some .none) fr ((up _).funs ff) hf ⟨fun b o q=>?_,new,oe,vs,by rw [oth _ _ (Ne.symm t3)]; exact oe1,oe2,oe3,oe4,oe5,T,_,_,t1,t2,t3,Heap.get?_update_self _ t4 (Obj.isFreed_of_fields (Obj.data_mapFields t5 _)),Obj.data_mapFields t5 _,by simp [h3]⟩ fun h' a b=>h h' a ((up _).trans b)
    rw [oth _ _ fun z=>by rw [z,t2] at q; cases q]
    exact stay b o q
theorem zph {fl:Option Value} {Q:Unit->Shared->Prop} (fr:A.frames=some (env :: outer)) (ff:s.heap.FunFrames B (env :: outer)) (hf:env.frame=some L) (x:XAt B e cls dct fl s.heap) (hfl:fl=none\/fl=some .none)
    (h:∀ h',XAt B e cls dct (some .none) h'->UpS s.heap h'->Q () { s with heap:=h' }):wpAny M A (leaving env (.ref e)) Q E s:=by
  unfold leaving
  exact wpAny_bind (zwj fr ff hf x hfl fun h1 x1 u1=>zwi (s:={ s with heap:=h1 }) x1 fun h2 x2 u2=>h h2 x2 (u1.trans u2))
end
abbrev bmV:List Value:=[.type "ValueError", .type "Exception", .type "BaseException", .type "object"]
structure XC (K:PySem.W.Frag) (C:Addr):Prop where
 hd:PySem.W.hasDictIn K C=true
 ga:PySem.W.findIn K (.ref C) "__getattribute__" = some (some (.builtin "BaseException.__getattribute__"))
 gn:PySem.W.findIn K (.ref C) "__getattr__" = some none
 sa:PySem.W.findIn K (.ref C) "__setattr__" = some (some (.builtin "object.__setattr__"))
 cl:PySem.W.findIn K (.ref C) "__class__" = some (some (.builtin "object.__class__"))
 kg:PySem.W.specialIn K (.builtin "object.__class__") "__get__" = some (some (.builtin "getset_descriptor.__get__"))
 kt:PySem.W.takesIn K (.builtin "object.__class__")=some true
 be:PySem.W.mroIn K C (.type "BaseException")=some true
 ob:PySem.W.mroIn K C (.type "object")=some true
 ex:∃ nm q N bs bm hdct sn sub ab col dd k0 k1 k2 k3 k5,K.lookup C=some (excClassObj nm q C N bs bm hdct sn sub ab col dd k0 k1 k2 k3 k5 "ValueError.__new__")/\PySem.W.tailIn K bmV bm=true
theorem XC.plain {K:PySem.W.Frag} {C:Addr} (q:PySem.W.excIn K C bmV "ValueError.__new__" = true) :
    ∃ nm q N bs bm hdct sn sub ab col dd k0 k1 k2 k3 k5,K.lookup C=some (excClassObj nm q C N bs bm hdct sn sub ab col dd k0 k1 k2 k3 k5 "ValueError.__new__")/\PySem.W.tailIn K bmV bm=true/\PySem.W.nsOkIn K N=true/\PySem.W.nsIn K N "__init__" = some none:=by
  unfold PySem.W.excIn at q
  split at q
  · rename_i dd cd sl ho
    split at q
    · rename_i C' bm k0 k1 k2 k3 n k5 hm hs
      simp only [Bool.and_eq_true,beq_iff_eq,Bool.not_eq_true'] at q
      obtain ⟨⟨⟨⟨⟨rfl,rfl⟩,d1⟩,ht⟩,hok⟩,hni⟩:=q
      obtain ⟨nm,bs,mro,ns,qn,hd,sn,sub,ab,col,del⟩:=cd
      dsimp only at hm d1 hok hni
      subst hm d1
      obtain ⟨l⟩:=sl
      simp only at hs
      subst hs
      exact ⟨nm,qn,ns,bs,bm,hd,sn,sub,ab,col,dd,k0,k1,k2,k3,k5,ho,ht,hok,hni⟩
    · cases q
  · cases q
section
variable {prog:Program} {w:World} {A:Around} {E:Value->Shared->Prop} {s:Shared} {K:PySem.W.Frag} {x C:Addr} {ox:Obj} {od:Option Obj}
theorem zyt {us:List Value} {Q:Value->Shared->Prop} (X:K.In s.heap) (q:PySem.W.excIn K C bmV "ValueError.__new__" = true) (hl:us.length<=sizeLine)
    (h:∀ h' e,Heap.MadeExcOf s.heap h' e (.ref C) us->Q (.ref e) { s with heap:=h' }):wpAny (model prog w) A (call (.ref C) us) Q E s:=by
  obtain ⟨nm,qn,N,bs,bm,hdct,sn,sub,ab,col,dd,k0,k1,k2,k3,k5,lk,tl,nk,ni⟩:=XC.plain q
  obtain ⟨hp,g,d,t,os⟩:=s
  exact wpAny_call_exc_subU PySem.F.excBase_ValueError rfl PySem.F.excBase_ValueError (PySem.W.tail_of_in X tl) (X _ _ lk) (.of_isNs (PySem.W.isNs_of_in X nk)) (PySem.W.nsMap_none_of_in X nk ni) (fun h' e m=>h h' e m) hl
theorem zyu {env:Env} {y:Sem Value} {Q:Flow->Shared->Prop} (hh:A.handled=none)
    (h:wpAny (model prog w) A y (fun v s1=>∃ C e oe vs,XC K C/\v = .ref e/\K.In s1.heap/\s1.heap.get? e=some oe/\oe.cls = .ref C/\oe.data = .fields vs/\vs[1]? = some Value.none/\E (.ref e) s1) E s) :
    wpAny (model prog w) A (raiseStmt env (some y) none) Q E s:=by
  unfold raiseStmt
  refine wpAny_bind (wpAny_mono h (fun v s1 z=>?_) fun _ _ z=>z)
  obtain ⟨C,e,oe,vs,c,rfl,X,e1,e2,e3,e4,fin⟩:=z
  obtain ⟨nm,qn,N,bs,bm,hdct,sn,sub,ab,col,dd,k0,k1,k2,k3,k5,lk,tl⟩:=c.ex
  obtain ⟨hp,g,d,t,os⟩:=s1
  have cl:=X _ _ lk
  have hcB:(Value.ref C :: bm).contains (.type "BaseException")=true:=by rw [List.contains_cons,(PySem.W.tail_of_in X tl).hasType (show bmV.contains (.type "BaseException")=true from rfl),Bool.or_true]
  obtain ⟨oc,od,oda,osl⟩:=oe
  dsimp only at e2 e3
  subst e2 e3
  have fl:∀ {α:Type} {QQ:Value->Shared->Prop},QQ .none ⟨hp,g,d,t,os⟩->wpAny (model prog w) A (field (.ref e) 1) QQ E ⟨hp,g,d,t,os⟩:=fun {_ _} z=>wpAny_field e1 rfl e4 z
  repeat (first | (with_reducible refine wpAny_isSubtype_exc cl ?_; rw [hcB]) | with_reducible refine wpAny_loadPart_at e1 ?_ | with_reducible refine wpAny_loadPart_at cl ?_ | with_reducible refine wpAny_field e1 rfl e4 ?_ | wp_step)
  exact wpAny_raiseNew_none hh fin
end
def XOb (e C:Addr) (dct:Option Addr) (fr:Bool) (h:Heap):Prop:=∃ oe vs,h.get? e=some oe/\oe.cls = .ref C/\oe.dict=dct/\oe.data = .fields vs/\1<vs.size/\(fr=true->vs[1]? = some Value.none)
def excO (e C:Addr) (dct:Option Addr) (fr:Bool):HO:=.ext (XOb e C dct fr)
section
variable {P:Program} {w:World} {H:Hp} {h:Heap}
theorem zoe {e C:Addr} {dct:Option Addr} {fr:Bool} (x:XOb e C dct fr h):ObjOk P w H h e (excO e C dct fr):=by
 refine ⟨x,?_,fun h1 h2 y k=>?_⟩
 ·obtain ⟨oe,vs,e1,_⟩:=x
  exact ⟨oe,e1⟩
 ·obtain ⟨oe,vs,e1,r⟩:=y
  exact ⟨oe,vs,k _ e1,r⟩
theorem ObjOk.there {a:Addr} {o:HO} (x:ObjOk P w H h a o):∃ ob,h.get? a=some ob:=by
 cases o with
 | lst xs=>obtain ⟨_,_,_,_,e⟩:=x; exact ⟨_,e⟩
 | tup xs=>obtain ⟨_,_,_,_,e,_⟩:=x; exact ⟨_,e⟩
 | dK kvs=>obtain ⟨_,_,_,_,o,_,_,e,_⟩:=x; exact ⟨_,e⟩
 | dT kvs=>obtain ⟨_,_,_,_,o,_,_,e,_⟩:=x; exact ⟨_,e⟩
 | set S n=>obtain ⟨o,_,_,_,e,_⟩:=x; exact ⟨_,e⟩
 | ins C dx fs=>obtain ⟨_,_,_,e,_⟩:=x; exact ⟨_,e⟩
 | own y=>exact x
 | xd fs=>obtain ⟨_,⟨_,_,_,e,_⟩,_⟩:=x; exact ⟨_,e⟩
 | rng lo hi=>obtain ⟨_,_,_,e⟩:=x; exact ⟨_,e⟩
 | frz ob u=>obtain ⟨e,_⟩:=x; exact ⟨_,e⟩
 | tbl ps=>exact ⟨_,show h.get? a=some _ from x⟩
 | met f y=>exact ⟨_,show h.get? a=some _ from x⟩
 | ext φ=>exact x.2.1
theorem HOk.exc (x:HOk P w H h) {e C:Addr} {dct:Option Addr} {fr:Bool} (q:H e=some (excO e C dct fr)):XOb e C dct fr h:=(show ObjOk P w H h e (excO e C dct fr) from x e _ q).1
end
structure Fly (P:Program) (w:World) (B:Heap) (l:List Env) (e C:Addr) (dct:Option Addr) (H:Hp) (h:Heap):Prop where
 at_:∃ fl,(fl=none\/fl=some Value.none)/\XAt B e (.ref C) dct fl h
 ff:h.FunFrames B l
 hok:HOk P w H h
 he:H e=some (excO e C dct false)
 cov:∀ a o,H a=some o->a≠e->∃ ob,B.get? a=some ob
def CXX (P:Program) (w:World):CXT:=fun outer H s E e s'=>∃ B ea C dct H',e = .ref ea/\s'.os=s.os/\AllBare s'.gens/\Fly P w B outer ea C dct H' s'.heap/\Un (frs outer) [] H H' s.heap s'.heap /\
 (∀ b o,s.heap.get? b=some o->H b=none->b ∉ frs outer->B.get? b=some o)/\E (.ref ea) dct H'
theorem zpi {P:Program} {w:World} {B:Heap} {e C:Addr} {dct:Option Addr} {fl:Option Value} {H:Hp} {h h':Heap} (x:HOk P w H h) (he:H e=some (excO e C dct false)) (cov:∀ a o,H a=some o->a≠e->∃ ob,B.get? a=some ob) (st:B.StaysIn h)
    (y:XAt B e (.ref C) dct fl h'):HOk P w H h':=fun a o q=>by
  by_cases z:a=e
  · subst z
    rw [he] at q
    cases q
    obtain ⟨oe,vs,e1,e2,e3,e4,e5,_⟩:=y.ex
    exact zoe ⟨oe,vs,e1,e2,e3,e4,e5,fun z=>by cases z⟩
  · refine (x a o q).stay (fun b u hb g=>?_) (fun _ q=>q) fun _ _ q=>q
    have hbe:∃ o',H b=some o'/\b≠e:=by
      rcases hb with rfl | hb
      · exact ⟨_,q,z⟩
      · refine ⟨_,hb,fun y=>?_⟩
        rw [y,he] at hb
        cases hb
    obtain ⟨o',h1,h2⟩:=hbe
    obtain ⟨ob,h3⟩:=cov b o' h1 h2
    have h4:=st b ob h3
    rw [g] at h4
    cases h4
    exact y.stay b _ h3
section
variable {X:Cx} {pins:List (Addr×Obj)} {σ:St} {H H':Hp} {s:Shared} {h':Heap}
theorem Inv.out (I:Inv X pins σ H s) (hex:X.ex = []) (u:Un (frs X.stack) [] H H' s.heap h'):Un X.fs [] X.H₀ H' X.s₀.heap h':=by
 have nl:∀ b o,X.s₀.heap.get? b=some o->b≠X.env.locals:=fun b o q z=>absurd (Nat.lt_of_lt_of_le (Heap.lt_size q) (by rw [z]; exact I.ok.above)) (Nat.lt_irrefl _)
 have nx:∀ b:Addr,b ∉ X.ex:=fun b=>by rw [hex]; simp
 have ns:∀ b o,X.s₀.heap.get? b=some o->b ∉ X.fs->b ∉ frs X.stack:=fun b o q n z=>by
  rcases List.mem_cons.mp (I.stkSub b z) with y | y
  ·exact nl b o q y
  ·exact n y
 refine ⟨fun b o q n hb _=>u.keep b o (I.base.keep b o q n hb (nx b)) (I.base.free b o q n (nx b)) (ns b o q hb) (by simp),fun b o q n hb _=>?_,fun b o q n _=>?_,fun b o q _=>?_,fun b xs q=>u.tups b xs (I.base.tups b xs q),fun b o v q=>u.frzs b o v (I.base.frzs b o v q),fun b ps q=>?_⟩
 ·obtain ⟨sl,e⟩:=I.base.slot b o q n hb (nx b)
  have fr:=I.base.free b o q n (nx b)
  by_cases hs:b∈frs X.stack
  ·obtain ⟨sl2,e2⟩:=u.slot b _ e fr hs (by simp)
   exact ⟨sl2,e2⟩
  ·exact ⟨sl,u.keep b _ e fr hs (by simp)⟩
 ·obtain ⟨o1,e⟩:=I.base.there b o q (nx b)
  exact u.free b o1 e (I.base.free b o q n (nx b)) (by simp)
 ·obtain ⟨o1,e⟩:=I.base.there b o q (nx b)
  exact u.there b o1 e (by simp)
 ·obtain ⟨m1,e1⟩:=I.base.tbls b ps q
  obtain ⟨m2,e2⟩:=u.tbls b _ e1
  exact ⟨m1++m2,by rw [e2,Array.append_assoc]⟩
def bOf (X:Cx) (e:Addr) (h:Heap):Heap:=PySem.W.hideAll h (e :: frs X.stack)
theorem Inv.flyB (I:Inv X pins σ H s) {e C:Addr} {dct:Option Addr} (he:H e=some (excO e C dct true)) :
    XAt (bOf X e s.heap) e (.ref C) dct none s.heap/\s.heap.FunFrames (bOf X e s.heap) X.stack/\(∀ b o,s.heap.get? b=some o->b≠e->b ∉ frs X.stack->(bOf X e s.heap).get? b=some o):=by
  obtain ⟨oe,vs,e1,e2,e3,e4,e5,e6⟩:=I.hok.exc he
  refine ⟨⟨fun b o q=>PySem.W.of_hideAll _ q,PySem.W.hideAll_none _ (.head _),oe,vs,e1,e2,e3,e4,e5,e6 rfl⟩,PySem.W.funFrames_hide I.stack fun env hm a ha=>.tail _ (List.mem_filterMap.mpr ⟨env,hm,ha⟩),fun b o q n1 n2=>PySem.W.hideAll_get _ q fun z=>?_⟩
  rcases List.mem_cons.mp z with y | y
  · exact n1 y
  · exact n2 y
theorem Inv.flyUn (I:Inv X pins σ H s) {e C:Addr} {dct:Option Addr} {fl:Option Value} (he:H e=some (excO e C dct true)) (x:XAt (bOf X e s.heap) e (.ref C) dct fl h') (u:UpS s.heap h') :
    Un (frs X.stack) [] H (upd H e (excO e C dct false)) s.heap h'/\HOk X.prog X.w (upd H e (excO e C dct false)) h'/\∀ a o,upd H e (excO e C dct false) a=some o->a≠e->∃ ob,(bOf X e s.heap).get? a=some ob:=by
  obtain ⟨x0,ff,big⟩:=I.flyB he
  have cov:∀ a o,upd H e (excO e C dct false) a=some o->a≠e->∃ ob,(bOf X e s.heap).get? a=some ob:=fun a o q n=>by
    rw [zai n] at q
    obtain ⟨ob,g⟩:=(I.hok a o q).there
    exact ⟨ob,big a ob g n fun z=>by rw [I.stkFree a z] at q; cases q⟩
  have ne:∀ b,H b=none->b≠e:=fun b n z=>by rw [z,he] at n; cases n
  refine ⟨⟨fun b o q n hb _=>x.stay b o (big b o q (ne b n) hb),fun b o q n hb _=>?_,fun b o q n _=>by rw [zai (ne b n)]; exact n,fun b o q _=>u.th b o q,fun b xs q=>?_,fun b o v q=>?_,fun b ps q=>⟨#[],?_⟩⟩,?_,cov⟩
  · obtain ⟨_,o1,g,nf⟩:=ff.mem (show b∈X.stack.filterMap (·.frame) from hb)
    rw [q] at g
    cases g
    exact u.sl b o q nf
  · rw [zai fun z=>by rw [z,he] at q; cases q]; exact q
  · rw [zai fun z=>by rw [z,he] at q; cases q]; exact q
  · rw [zai fun z=>by rw [z,he] at q; cases q]; simpa using q
  · have h0:HOk X.prog X.w (upd H e (excO e C dct false)) s.heap:=fun a o q=>by
      by_cases z:a=e
      · subst z
        rw [zac] at q
        cases q
        obtain ⟨oe,vs,e1,e2,e3,e4,e5,_⟩:=I.hok.exc he
        exact zoe ⟨oe,vs,e1,e2,e3,e4,e5,fun z=>by cases z⟩
      · rw [zai z] at q
        refine (I.hok a o q).stay (fun _ _ _ g=>g) (fun b g=>?_) fun b xs g=>?_
        · rw [zai fun z=>by rw [z,he] at g; cases g]; exact g
        · rw [zai fun z=>by rw [z,he] at g; cases g]; exact g
    exact zpi h0 zac cov x0.stay x
end
abbrev XH:=Value->Option Addr->St->Hp->Prop
def zfk (CX:CXT) (X:Cx) (Ek:XH):Prop:=∀ (pins:List (Addr×Obj)) (σ:St) (H:Hp) (s:Shared) (e:Value) (s':Shared),Inv X pins σ H s->CX X.stack H s (fun v d H'=>Ek v d σ H') e s'->X.xe e s'
def zsa (X:Cx) (Ek:XH):Prop:=∀ (pins:List (Addr×Obj)) (σ:St) (H:Hp) (s:Shared) (e C:Addr) (dct:Option Addr),Inv X pins σ H s->H e=some (excO e C dct true)->Ek (.ref e) dct σ (upd H e (excO e C dct false))->X.xe (.ref e) s
abbrev EX0:XH:=fun _ _ _ _=>False
theorem passN {P:Program} {w:World} {X:Cx}:zfk (CXX P w) X EX0:=fun _ _ _ _ _ _ _ ⟨_,_,_,_,_,_,_,_,_,_,_,h⟩=>h.elim
section
variable {X:Cx} {pins:List (Addr×Obj)} {σ:St} {H H':Hp} {s s':Shared} {B h':Heap} {e C:Addr} {dct:Option Addr} {fl:Option Value}
theorem zyv (F:Fly X.prog X.w B X.stack e C dct H' s'.heap) (un:Un (frs X.stack) [] H H' s.heap s'.heap) (cv:∀ b o,s.heap.get? b=some o->H b=none->b ∉ frs X.stack->B.get? b=some o)
    (x:XAt B e (.ref C) dct fl h') (u:UpS s'.heap h'):Un (frs X.stack) [] H H' s.heap h'/\HOk X.prog X.w H' h':=by
  obtain ⟨fl0,_,x0⟩:=F.at_
  refine ⟨⟨fun b o q n hb _=>x.stay b o (cv b o q n hb),fun b o q n hb _=>?_,un.free,fun b o q hx=>?_,un.tups,un.frzs,un.tbls⟩,zpi F.hok F.he F.cov x0.stay x⟩
  · obtain ⟨sl,e1⟩:=un.slot b o q n hb (by simp)
    obtain ⟨_,o1,g,nf⟩:=F.ff.mem (show b∈X.stack.filterMap (·.frame) from hb)
    rw [e1] at g
    cases g
    obtain ⟨sl2,e2⟩:=u.sl b _ e1 nf
    exact ⟨sl2,e2⟩
  · obtain ⟨o1,e1⟩:=un.there b o q hx
    exact u.th b o1 e1
end
section
variable {P:Program} {w:World} {K:PySem.W.Frag} {mg:Str->Option Value} {base:Heap} {N:List Str} {qual:Str} {sc:Scope} {f:Addr} {cd:Value} {A:Around} {outer:List Env} {s₀:Shared} {H₀:Hp} {E:XK}
theorem zek:zsa (cxOf (CXX P w) P w K mg base N qual sc f cd A outer s₀ H₀ E) (fun v d _ H=>E v d H):=by
 intro pins σ H s e C dct I he hE
 obtain ⟨x,ff,big⟩:=I.flyB he
 refine zph (outer:=outer) (L:=s₀.heap.objs.size) I.ok.frames ff rfl x (.inl rfl) fun h' x' u=>?_
 obtain ⟨un,ok,cov⟩:=I.flyUn he x' u
 refine ⟨_,e,C,dct,_,rfl,I.os,I.bare,⟨⟨_,.inr rfl,x'⟩,(u.funs ff).2.2,ok,zac,cov⟩,I.out rfl un,fun b o q n hb=>?_,hE⟩
 have fr:=I.base.free b o q n (by show b ∉ ([]:List Addr); simp)
 refine big b o (I.base.keep b o q n hb (by show b ∉ ([]:List Addr); simp)) (fun z=>by rw [z,he] at fr; cases fr) fun z=>?_
 rcases List.mem_cons.mp (I.stkSub b z) with y | y
 ·exact absurd (Nat.lt_of_lt_of_le (Heap.lt_size q) (by rw [y]; exact I.ok.above)) (Nat.lt_irrefl _)
 ·exact hb y
theorem passF:zfk (CXX P w) (cxOf (CXX P w) P w K mg base N qual sc f cd A outer s₀ H₀ E) (fun v d _ H=>E v d H):=by
 intro pins σ H s e s' I q
 obtain ⟨B,ea,C,dct,H',rfl,hos,hb,F,un,cv,hE⟩:=q
 obtain ⟨fl0,hfl,x0⟩:=F.at_
 refine zph (outer:=outer) (L:=s₀.heap.objs.size) I.ok.frames F.ff rfl x0 hfl fun h' x' u=>?_
 obtain ⟨u2,ok⟩:=zyv (X:=cxOf (CXX P w) P w K mg base N qual sc f cd A outer s₀ H₀ E) F un cv x' u
 refine ⟨B,ea,C,dct,H',rfl,hos.trans I.os,hb,⟨⟨_,.inr rfl,x'⟩,(u.funs F.ff).2.2,ok,F.he,F.cov⟩,I.out rfl u2,fun b o q n hb=>?_,hE⟩
 refine cv b o (I.base.keep b o q n hb (by show b ∉ ([]:List Addr); simp)) (I.base.free b o q n (by show b ∉ ([]:List Addr); simp)) fun z=>?_
 rcases List.mem_cons.mp (I.stkSub b z) with y | y
 ·exact absurd (Nat.lt_of_lt_of_le (Heap.lt_size q) (by rw [y]; exact I.ok.above)) (Nat.lt_irrefl _)
 ·exact hb y
end
section
variable {P:Program} {w:World} {X:Cx} {pins pins':List (Addr×Obj)} {Hk:XH} {σ:St} {H:Hp} {s:Shared}
end
section
variable {X:Cx} {pins:List (Addr×Obj)} {σ:St} {H:Hp} {s:Shared} {e:Addr}
end
def tCallX (sp:Sp) (Ek:XH) (t:TA):TE:=fun σ H Q=>t σ H fun vs H1=>sp vs H1 Q (fun v d H'=>Ek v d σ H')
section
variable {X:Cx} {CX:CXT} {k:Nat} {x:Str} {ps:List Str} {sp:Sp} {Ek:XH} {p pos:Pos} {e:Expr} {es:List Expr} {t:TA}
theorem zax (D:Def X.prog X.w X.K X.mg X.base CX k x ps sp) (hr:Room k X.A) (hg:Gl X x) (hx:zfk CX X Ek) (ha:PA X (e :: es) t)
    (hdb:(x == ("__debug__" : Str))=false:=by decide) (he:starEach (e :: es) X.env=(false,eval e X.env) :: starEach es X.env:=by rfl) (hpl:(backTo pos (starEach es X.env)).any (·.1)=false:=by rfl) :
    PE X (.Call (.Name x p) (e :: es) [] pos) (tCallX sp Ek t):=by
  obtain ⟨f,fd,F,hb,hk,hm⟩:=D.ex
  intro pins s σ H Q I h
  refine wpAny_Call_Name_kw (zhx I hg hm ?_ hdb)
  refine PySem.W.callWith_K (h₀:=X.base) I.ok.mod.kin hk (thn (ha pos pins s σ H _ I h) fun us s1 ⟨vs,H1,I1,r,q⟩=>⟨I1.kIn,?_⟩) he hpl
  have hl:(us++[]).length=ps.length:=by rw [List.append_nil,<- r.length]; exact F.len _ _ _ _ q
  have hbb:=hb s1 us I1.kIn hl
  rw [List.append_nil] at hbb
  refine wpAny_call (codeAny_mono (F.run X.A X.stack s1 H1 ⟨us,[]⟩ us vs Q _ hr I1.env0 hbb r q) fun r s' hq=>?_)
  cases r with
  | error e=>exact hx pins σ H1 s1 e s' I1 hq
  | ok fl =>
    cases fl with
    | ret u=>exact I1.after hq
    | next=>exact False.elim hq
    | brk=>exact False.elim hq
    | cont=>exact False.elim hq
end
theorem Src.okN {P:Program} {w:World} {K:PySem.W.Frag} {mg:Str->Option Value} {base:Heap} {CX:CXT} {x:Str} {st:Stmt} {N ps:List Str} {k:Nat} {sp:Sp} (F:Src K mg x st ps) (S:FnScope N ps (zab st)) (len:∀ vs H Q E,sp vs H Q E->vs.length=ps.length)
    (hbody:∀ (f:Addr) (cdv:Value) (A:Around) (outer:List Env) (s:Shared) (H:Hp) (vs:List V) (Q:VK) (E:XK),Room k (A.deeper (envOfC x (zab st) s.heap.objs.size f cdv))->sp vs H Q E ->
      ∃ t,PSs (cxOf CX P w K mg base N x (zab st) f cdv A outer s H E).nox (zak st) t/\t { nx:=fun _ H'=>Q .non H',rt:=Q } (start N vs) H):Def P w K mg base CX (k+1) x ps sp:=by
  obtain ⟨f,fd,F,b,m⟩:=F.ex
  obtain ⟨oc,od,kV,doc,pm,an,cdv,ct,osl,rfl,lk,hcd⟩:=F.ex
  exact ⟨f,_,fn_of lk hcd S len fun A outer s H vs Q E hr hsp=>by
    obtain ⟨t,h,q⟩:=hbody f cdv A outer s H vs Q E hr hsp
    exact ⟨t,h.nox,q⟩,b,F.kp,m⟩
theorem Src.okX {P:Program} {w:World} {K:PySem.W.Frag} {mg:Str->Option Value} {base:Heap} {x:Str} {st:Stmt} {N ps:List Str} {k:Nat} {sp:Sp} (F:Src K mg x st ps) (S:FnScope N ps (zab st)) (len:∀ vs H Q E,sp vs H Q E->vs.length=ps.length)
    (hbody:∀ (f:Addr) (cdv:Value) (A:Around) (outer:List Env) (s:Shared) (H:Hp) (vs:List V) (Q:VK) (E:XK),Room k (A.deeper (envOfC x (zab st) s.heap.objs.size f cdv))->sp vs H Q E ->
      ∃ t,PSs (cxOf (CXX P w) P w K mg base N x (zab st) f cdv A outer s H E) (zak st) t/\t { nx:=fun _ H'=>Q .non H',rt:=Q } (start N vs) H):Def P w K mg base (CXX P w) (k+1) x ps sp:=by
  obtain ⟨f,fd,F,b,m⟩:=F.ex
  obtain ⟨oc,od,kV,doc,pm,an,cdv,ct,osl,rfl,lk,hcd⟩:=F.ex
  exact ⟨f,_,fn_of lk hcd S len fun A outer s H vs Q E hr hsp=>hbody f cdv A outer s H vs Q E hr hsp,b,F.kp,m⟩
theorem zsb {P:Program} {w:World} {H:Hp} {h:Heap} {a:Addr} (x:HOk P w H h) (e:h.get? a=none):H a=none:=by
 cases q:H a with
 | none=>rfl
 | some o =>
  obtain ⟨ob,g⟩:=(x a o q).there
  rw [e] at g
  cases g
theorem Inv.laidN {X:Cx} {pins:List (Addr×Obj)} {σ:St} {H:Hp} {s:Shared} {h':Heap} {a:Addr} {o:HO} {t':Nat} (I:Inv X pins σ H s) (k:∀ b u,s.heap.get? b=some u->h'.get? b=some u) (hn:s.heap.get? a=none) (new:ObjOk X.prog X.w (upd H a o) h' a o) :
    Inv X pins σ (upd H a o) { s with heap:=h',toks:=t' }:=by
  have fr:=zsb I.hok hn
  refine I.un (t':=t') ⟨fun b ob q _ _ _=>k b ob q,fun b ob q _ _ _=>⟨ob.slots,k b ob q⟩,fun b ob q n _=>?_,fun b ob q _=>⟨ob,k b ob q⟩,fun b xs q=>?_,fun b ob v q=>?_,fun b ps q=>⟨#[],?_⟩⟩ fun b ob q=>?_
  · rw [zai fun z=>by rw [z,hn] at q; cases q]; exact n
  · rw [zai (zan q fr)]; exact q
  · rw [zai (zan q fr)]; exact q
  · rw [zai (zan q fr)]; simpa using q
  · by_cases z:b=a
    · subst z
      rw [zac] at q
      cases q
      exact new
    · rw [zai z] at q
      exact (I.hok b ob q).stay (fun c u _ g=>k c u g) (fun c g=>by rw [zai (zan g fr)]; exact g) fun c xs g=>by rw [zai (zan g fr)]; exact g
def tXmk (C:Addr) (t:TA):TE:=fun σ H Q=>t σ H fun vs H1=>vs.length<=1000/\∀ e,H1 e=none->Q (.ref e) (upd H1 e (excO e C none true))
def tRaise (K:PySem.W.Frag) (Ek:XH) (te:TE):TS:=fun _ σ H=>te σ H fun v H1=>∃ e C dct,v = .ref e/\H1 e=some (excO e C dct true)/\XC K C/\Ek (.ref e) dct σ (upd H1 e (excO e C dct false))
section
variable {X:Cx} {C:Addr} {x:Str} {p pos:Pos} {e:Expr} {es:List Expr} {t:TA}
theorem zel (q:PySem.W.excIn X.K C bmV "ValueError.__new__" = true) (kp:PySem.W.keepIn X.K (.ref C)=true) (hg:Gl X x) (hm:X.mg x=some (.ref C)) (ha:PA X (e :: es) t)
    (hdb:(x == ("__debug__" : Str))=false:=by decide) (he:starEach (e :: es) X.env=(false,eval e X.env) :: starEach es X.env:=by rfl) (hpl:(backTo pos (starEach es X.env)).any (·.1)=false:=by rfl) :
    PE X (.Call (.Name x p) (e :: es) [] pos) (tXmk C t):=by
  intro pins s σ H Q I h
  refine wpAny_Call_Name_kw (zhx I hg hm ?_ hdb)
  refine PySem.W.callWith_K (h₀:=X.base) I.ok.mod.kin kp (thn (ha pos pins s σ H _ I h) fun us s1 ⟨vs,H1,I1,r,hl,q1⟩=>⟨I1.kIn,?_⟩) he hpl
  refine zyt I1.kIn q (by rw [List.nil_append,<- r.length]; exact line_lit hl) fun h' ea m=>?_
  obtain ⟨tt,g1,g2,g3⟩:=m.there
  exact ⟨.ref ea,_,I1.laidN (t':=s1.toks) m.keeps m.new (zoe ⟨_,_,g1,rfl,rfl,rfl,Nat.lt_of_lt_of_le (by decide) (Nat.le_refl 6),fun _=>rfl⟩),rfl,q1 ea (zsb I1.hok m.new)⟩
theorem zcs {Ek:XH} {te:TE} (K:PySem.W.Frag) (hK:X.K=K) (hc:X.calm=true) (hx:zsa X Ek) (he:PE X e te):PS X (.Raise (some e) none pos) (tRaise K Ek te):=by
 subst hK
 intro pins s σ H D I h
 rw [arm_exec_Raise]
 refine wpAny_bind (wpAny_standAt ?_)
 show wpAny _ _ (raiseStmt X.env (some (do let v <- eval e X.env; standAt pos; pure v)) none) _ _ _
 refine zyu (K:=X.K) (I.ok.hd hc) (wpAny_bind (thn (he pins s σ H _ I h) fun u s1 ⟨v,H1,I1,r,ea,C,dct,hv,hh,c,q⟩=>wpAny_bind (wpAny_standAt (wpAny_pure ?_))))
 subst hv
 cases (show u=Value.ref ea from r)
 obtain ⟨oe,vs,e1,e2,e3,e4,e5,e6⟩:=I1.hok.exc hh
 exact ⟨C,ea,oe,vs,c,rfl,I1.kIn,e1,e2,e4,e6 rfl,hx pins σ H1 s1 ea C dct I1 hh q⟩
end
section
variable {prog:Program} {w:World} {A:Around} {E:Value->Shared->Prop} {s:Shared} {K:PySem.W.Frag} {e C C':Addr}
end
def hkOf (K:PySem.W.Frag) (C':Addr) (th:Addr->TS) (D:Ends):XH:=fun v d σ H=>∃ e C,v = .ref e/\H e=some (excO e C d false)/\PySem.W.subIn K (.ref C) (.ref C')=some true/\th e D σ H
def tTry (K:PySem.W.Frag) (C':Addr) (tb:XH->TS) (th:TS):TS:=fun D σ H=>tb (hkOf K C' (fun _=>th) D) D σ H
def tTryAs (K:PySem.W.Frag) (C':Addr) (i:Nat) (tb:XH->TS) (th:TS):TS:=fun D σ H =>
 tb (hkOf K C' (fun e D σ H=>th { nx:=fun σ H=>D.nx (σ.set i none) H,rt:=D.rt,bk:=fun σ H=>D.bk (σ.set i none) H,ct:=fun σ H=>D.ct (σ.set i none) H } (σ.set i (some (.ref e))) H) D) D σ H
section
variable {P:Program} {w:World} {X:Cx} {C':Addr} {x:Str} {np hpos pos:Pos} {body suite:List Stmt} {b0:Stmt} {tb:XH->TS} {th:TS}
end
section
variable {X:Cx}
end
section
variable {K:PySem.W.Frag} {C C':Addr}
theorem zff (q:PySem.W.excIn K C bmV "ValueError.__new__" = true):∃ nm q N bs bm hdct sn sub ab col dd k0 k1 k2 k3 k5,K.lookup C=some (excClassObj nm q C N bs bm hdct sn sub ab col dd k0 k1 k2 k3 k5 "ValueError.__new__")/\PySem.W.tailIn K bmV bm=true:=by
 obtain ⟨nm,q,N,bs,bm,hdct,sn,sub,ab,col,dd,k0,k1,k2,k3,k5,l,t,_⟩:=XC.plain q
 exact ⟨nm,q,N,bs,bm,hdct,sn,sub,ab,col,dd,k0,k1,k2,k3,k5,l,t⟩
end
section
variable {α:Type} {enc:α->List V} {H H':Hp} {ps:List Addr} {qs:List α}
end
abbrev F2:=Int×Int
def f2 (q:F2):List V:=[.int q.1,.int q.2]
end L2
namespace Sw
open L2
def nrm (q:F2):F2:=(rN q.1 q.2,rD q.1 q.2)
theorem nrm_fr {q:F2} (h:q.2≠0):Fr (nrm q).1 (nrm q).2:=zyq h
theorem nrm_cross {q:F2} (h:q.2≠0):(nrm q).1*q.2=(nrm q).2*q.1:=zrp h
end Sw
namespace L2
open PySem PySem.Spec PyProof.Rows
theorem zhc {H:Hp} {l:Addr} {xs:List V} {y:V} {Q:VK} (h:H l=some (.lst xs)) (hz:xs.length<1000) (q:Q .non (upd H l (.lst (xs++[y])))):zrk (.ref l) [y] H Q:=⟨l,xs,y,rfl,rfl,h,line_lt hz,q⟩
theorem zfx {K:PySem.W.Frag} {H:Hp} {l:Addr} {xs:List V} (h:H l=some (.lst xs)):tyV K "list" (.ref l) H:=.inl ⟨rfl,_,.of h⟩
def tCallN (sp:Sp) (t:TA):TE:=fun σ H Q=>t σ H fun vs H1=>sp vs H1 Q E0
section
variable {P:Program} {w:World} {X:Cx} {k:Nat} {x:Str} {ps:List Str} {sp:Sp} {p pos:Pos} {e:Expr} {es:List Expr} {t:TA}
end
section
variable {X:Cx} {o value:Expr} {f:Str} {pos pos':Pos} {ta tv:TE}
end
def tXmk1 (C:Addr) (sp:Sp) (t:TA):TE:=fun σ H Q=>t σ H fun vs H1=>vs.length<=1000/\∀ e,H1 e=none->sp (.ref e :: vs) (upd H1 e (excO e C none true)) (fun v H2=>v = .non/\Q (.ref e) H2) E0
section
variable {X:Cx}
end
end L2
namespace Sw
open L2
def Fine (i:Nat) (b:Int) (q:Q4):Prop:=i<60/\0<=q.1/\q.1<=1000000000000/\0<=q.2.1/\q.2.1<=11/\1<=q.2.2.1/\q.2.2.1<=1000000/\1<=q.2.2.2/\q.2.2.2<=1000000/\b<=q.1
instance (i:Nat) (b:Int) (q:Q4):Decidable (Fine i b q):=by unfold Fine; infer_instance
theorem drop_get {α:Type} {xs:List α} {i:Nat} {x:α} (h:xs[i]? = some x):xs.drop i=x :: xs.drop (i+1):=by
 obtain ⟨h1,rfl⟩:=List.getElem?_eq_some_iff.mp h
 exact List.drop_eq_getElem_cons h1
end Sw
namespace L2
open PySem PySem.Spec PyProof.Rows
def BindsV (K:PySem.W.Frag) (fd:FuncData) (ps:List Str) (dvs:List V):Prop:=∃ ds,Vals dvs ds/\Binds K fd ps ds
theorem BindsV.nil {K:PySem.W.Frag} {fd:FuncData} {ps:List Str} (h:Binds K fd ps []):BindsV K fd ps []:=⟨[],.nil,h⟩
structure FunE (K:PySem.W.Frag) (x qual:Str) (st:Stmt) (f:Addr) (fd:FuncData):Prop where
 ex:∃ (oc:Value) (od:Option Addr) (dV kV doc pm:Value) (an:Option Addr) (cdv ct:Value) (osl:Array (Option Value)),
  fd=PySem.W.fnOf x qual (zal st) (zak st) (zab st) dV kV doc pm an cdv ct/\K.lookup f=some ⟨oc,od,.func fd,osl⟩/\PySem.W.codeIn K cdv qual=true
theorem zau {K:PySem.W.Frag} {x qual:Str} {st:Stmt} {f:Addr} {oc:Value} {od an:Option Addr} {osl:Array (Option Value)} {dV kV doc pm cdv ct:Value} (l:K.lookup f=some ⟨oc,od,.func (PySem.W.fnOf x qual (zal st) (zak st) (zab st) dV kV doc pm an cdv ct),osl⟩)
    (c:PySem.W.codeIn K cdv qual=true):FunE K x qual st f (PySem.W.fnOf x qual (zal st) (zak st) (zab st) dV kV doc pm an cdv ct):=⟨⟨oc,od,dV,kV,doc,pm,an,cdv,ct,osl,rfl,l,c⟩⟩
theorem zes {K:PySem.W.Frag} {fd:FuncData} {ps:List Str} {ds:List Value} {T:Addr} {oc:Value} {od:Option Addr} {n:Nat} {osl:Array (Option Value)} {items:Array Value} (hd:fd.defaults = .ref T) (lk:K.lookup T=some ⟨oc,od,.seq items n,osl⟩)
    (h:∀ us:List Value,(us++ds).length=ps.length->∃ k:Option (Array Value)->Sem (List (Str×Value)),bindArgs fd ⟨us,[]⟩ = seqItems? fd.defaults >>= k/\k (some items)=pure (ps.zip (us++ds))):Binds K fd ps ds:=fun s us kx hl=>by
  obtain ⟨k,h1,h2⟩:=h us hl
  exact BindsTo.of_defaults hd (kx _ _ lk) rfl h1 h2
structure MethD (P:Program) (w:World) (K:PySem.W.Frag) (mg:Str->Option Value) (base:Heap) (CX:CXT) (k:Nat) (C:Addr) (m:Str) (ps:List Str) (dss:List (List V)) (sp:Sp):Prop where
 ex:∃ (f:Addr) (fd:FuncData),FnOk P w K mg base CX k f fd ps sp/\Meth K C m f/\∀ dvs∈dss,BindsV K fd ps dvs
structure MkD (P:Program) (w:World) (K:PySem.W.Frag) (mg:Str->Option Value) (base:Heap) (CX:CXT) (k:Nat) (C:Addr) (ps:List Str) (dss:List (List V)) (sp:Sp):Prop where
 ex:∃ (f:Addr) (fd:FuncData),FnOk P w K mg base CX k f fd ps sp/\Mk K C f/\∀ dvs∈dss,BindsV K fd ps dvs
structure SrcM (K:PySem.W.Frag) (C:Addr) (m qual:Str) (st:Stmt) (ps:List Str) (dss:List (List V)):Prop where
 ex:∃ (f:Addr) (fd:FuncData),FunE K m qual st f fd/\Meth K C m f/\∀ dvs∈dss,BindsV K fd ps dvs
structure SrcK (K:PySem.W.Frag) (C:Addr) (qual:Str) (st:Stmt) (ps:List Str) (dss:List (List V)):Prop where
 ex:∃ (f:Addr) (fd:FuncData),FunE K "__init__" qual st f fd/\Mk K C f/\∀ dvs∈dss,BindsV K fd ps dvs
section
variable {P:Program} {w:World} {K:PySem.W.Frag} {mg:Str->Option Value} {base:Heap} {CX:CXT} {C:Addr} {m qual:Str} {st:Stmt} {N ps:List Str} {dss:List (List V)} {k:Nat} {sp:Sp}
theorem SrcM.okN (F:SrcM K C m qual st ps dss) (S:FnScope N ps (zab st)) (len:∀ vs H Q E,sp vs H Q E->vs.length=ps.length)
    (hbody:∀ (f:Addr) (cdv:Value) (A:Around) (outer:List Env) (s:Shared) (H:Hp) (vs:List V) (Q:VK) (E:XK),Room k (A.deeper (envOfC qual (zab st) s.heap.objs.size f cdv))->sp vs H Q E ->
      ∃ t,PSs (cxOf CX P w K mg base N qual (zab st) f cdv A outer s H E).nox (zak st) t/\t { nx:=fun _ H'=>Q .non H',rt:=Q } (start N vs) H):MethD P w K mg base CX (k+1) C m ps dss sp:=by
  obtain ⟨f,fd,F,me,b⟩:=F.ex
  obtain ⟨oc,od,dV,kV,doc,pm,an,cdv,ct,osl,rfl,lk,hcd⟩:=F.ex
  exact ⟨f,_,fn_of lk hcd S len fun A outer s H vs Q E hr hsp=>by
    obtain ⟨t,h,q⟩:=hbody f cdv A outer s H vs Q E hr hsp
    exact ⟨t,h.nox,q⟩,me,b⟩
theorem SrcM.okX (F:SrcM K C m qual st ps dss) (S:FnScope N ps (zab st)) (len:∀ vs H Q E,sp vs H Q E->vs.length=ps.length)
    (hbody:∀ (f:Addr) (cdv:Value) (A:Around) (outer:List Env) (s:Shared) (H:Hp) (vs:List V) (Q:VK) (E:XK),Room k (A.deeper (envOfC qual (zab st) s.heap.objs.size f cdv))->sp vs H Q E ->
      ∃ t,PSs (cxOf (CXX P w) P w K mg base N qual (zab st) f cdv A outer s H E) (zak st) t/\t { nx:=fun _ H'=>Q .non H',rt:=Q } (start N vs) H):MethD P w K mg base (CXX P w) (k+1) C m ps dss sp:=by
  obtain ⟨f,fd,F,me,b⟩:=F.ex
  obtain ⟨oc,od,dV,kV,doc,pm,an,cdv,ct,osl,rfl,lk,hcd⟩:=F.ex
  exact ⟨f,_,fn_of lk hcd S len fun A outer s H vs Q E hr hsp=>hbody f cdv A outer s H vs Q E hr hsp,me,b⟩
theorem SrcK.okN (F:SrcK K C qual st ps dss) (S:FnScope N ps (zab st)) (len:∀ vs H Q E,sp vs H Q E->vs.length=ps.length)
    (hbody:∀ (f:Addr) (cdv:Value) (A:Around) (outer:List Env) (s:Shared) (H:Hp) (vs:List V) (Q:VK) (E:XK),Room k (A.deeper (envOfC qual (zab st) s.heap.objs.size f cdv))->sp vs H Q E ->
      ∃ t,PSs (cxOf CX P w K mg base N qual (zab st) f cdv A outer s H E).nox (zak st) t/\t { nx:=fun _ H'=>Q .non H',rt:=Q } (start N vs) H):MkD P w K mg base CX (k+1) C ps dss sp:=by
  obtain ⟨f,fd,F,me,b⟩:=F.ex
  obtain ⟨oc,od,dV,kV,doc,pm,an,cdv,ct,osl,rfl,lk,hcd⟩:=F.ex
  exact ⟨f,_,fn_of lk hcd S len fun A outer s H vs Q E hr hsp=>by
    obtain ⟨t,h,q⟩:=hbody f cdv A outer s H vs Q E hr hsp
    exact ⟨t,h.nox,q⟩,me,b⟩
theorem SrcK.okX (F:SrcK K C qual st ps dss) (S:FnScope N ps (zab st)) (len:∀ vs H Q E,sp vs H Q E->vs.length=ps.length)
    (hbody:∀ (f:Addr) (cdv:Value) (A:Around) (outer:List Env) (s:Shared) (H:Hp) (vs:List V) (Q:VK) (E:XK),Room k (A.deeper (envOfC qual (zab st) s.heap.objs.size f cdv))->sp vs H Q E ->
      ∃ t,PSs (cxOf (CXX P w) P w K mg base N qual (zab st) f cdv A outer s H E) (zak st) t/\t { nx:=fun _ H'=>Q .non H',rt:=Q } (start N vs) H):MkD P w K mg base (CXX P w) (k+1) C ps dss sp:=by
  obtain ⟨f,fd,F,me,b⟩:=F.ex
  obtain ⟨oc,od,dV,kV,doc,pm,an,cdv,ct,osl,rfl,lk,hcd⟩:=F.ex
  exact ⟨f,_,fn_of lk hcd S len fun A outer s H vs Q E hr hsp=>hbody f cdv A outer s H vs Q E hr hsp,me,b⟩
end
def zpj (C:Addr) (m:Str) (sp:Sp) (dvs:List V) (Ek:XH) (ta:TE) (t:TA):TE:=fun σ H Q=>ta σ H fun x H1=>∃ a dx fs,x = .ref a/\H1 a=some (.ins C dx fs)/\fs.lookup m=none /\
 t σ H1 fun vs H2=>sp (x :: (vs++dvs)) H2 Q (fun v d H'=>Ek v d σ H')
def tMakeX (C:Addr) (sp:Sp) (dvs:List V) (Ek:XH) (t:TA):TE:=fun σ H Q=>t σ H fun vs H1=>∀ x dx,H1 x=none->H1 dx=none->dx≠x ->
 sp (.ref x :: (vs++dvs)) (upd (upd H1 dx (.own x)) x (.ins C dx [])) (fun v H2=>v = .non/\Q (.ref x) H2) (fun v d H'=>Ek v d σ H')
section
variable {X:Cx} {CX:CXT} {k:Nat} {f C:Addr} {fd:FuncData} {ps:List Str} {sp:Sp} {dvs:List V} {dss:List (List V)} {Ek:XH} {x m:Str} {p pos apos:Pos} {e o:Expr} {es:List Expr} {ta:TE} {t:TA}
theorem zof {pins:List (Addr×Obj)} {σ:St} {H:Hp} {s:Shared} {Q:VK} {us:List Value} {vs:List V} (F:FnOk X.prog X.w X.K X.mg X.base CX k f fd ps sp) (hr:Room k X.A) (hb:BindsV X.K fd ps dvs) (hx:zfk CX X Ek)
    (I:Inv X pins σ H s) (r:Vals vs us) (h:sp (vs++dvs) H Q (fun v d H'=>Ek v d σ H')):wpAny (model X.prog X.w) X.A (call (.ref f) us) (EP X pins σ Q) X.xe s:=by
  obtain ⟨ds,hd,hb⟩:=hb
  have r2:Vals (vs++dvs) (us++ds):=r.append hd
  have hl:(us++ds).length=ps.length:=by rw [<- r2.length]; exact F.len _ _ _ _ h
  refine wpAny_call (codeAny_mono (F.run X.A X.stack s H ⟨us,[]⟩ (us++ds) (vs++dvs) Q _ hr I.env0 (hb s us I.kIn hl) r2 h) fun r s' hq=>?_)
  cases r with
  | error e=>exact hx pins σ H s e s' I hq
  | ok fl =>
    cases fl with
    | ret u=>exact I.after hq
    | next=>exact False.elim hq
    | brk=>exact False.elim hq
    | cont=>exact False.elim hq
theorem zar {pl:Sem Bool} (D:MethD X.prog X.w X.K X.mg X.base CX k C m ps dss sp) (hin:dvs∈dss) (c:Cls X.K C) (hr:Room k X.A) (hx:zfk CX X Ek) (he:PE X o ta) (ha:PA X (e :: es) t)
    (hst:starEach (e :: es) X.env=(false,eval e X.env) :: starEach es X.env:=by rfl) (hpl:(backTo pos (starEach es X.env)).any (·.1)=false:=by rfl)
    (ht:eval (.Call (.Attribute o m apos) (e :: es) [] pos) X.env=(do
      let ov <- eval o X.env
      standAt apos.atName
      let (f,first) <- holding [ov] (getMethod ov m pl)
      callWith pos f first (backTo pos (starEach (e :: es) X.env)) (backToKw pos (keywordEach [] X.env))):=by rfl) :
    PE X (.Call (.Attribute o m apos) (e :: es) [] pos) (zpj C m sp dvs Ek ta t):=by
  obtain ⟨f,fd,F,hm,hb⟩:=D.ex
  intro pins s σ H Q I h
  refine PySem.W.methodCall_KW (pl:=pl) (thn (he pins s σ H _ I h) fun u s1 ⟨x,H1,I1,rx,a,dx,fs,ex,ea,l,q⟩=>?_) ht
  subst ex
  obtain rfl:u=Value.ref a:=rx
  refine zlf I1 ea c hm l ?_
  refine PySem.W.callWith_K (first:=[.ref a]) (h₀:=X.base) I.ok.mod.kin hm.kp (thn (ha pos pins s1 σ H1 _ I1 q) fun us s2 ⟨vs,H2,I2,r,q2⟩=>⟨I2.kIn,?_⟩) hst hpl
  exact zof (us:=.ref a :: us) (vs:=.ref a :: vs) F hr (hb _ hin) hx I2 (.cons rfl r) q2
theorem zci {pl:Sem Bool} (D:MethD X.prog X.w X.K X.mg X.base CX k C m ps dss sp) (hin:dvs∈dss) (c:Cls X.K C) (hr:Room k X.A) (hx:zfk CX X Ek) (he:PE X o ta)
    (ht:eval (.Call (.Attribute o m apos) [] [] pos) X.env=(do
      let ov <- eval o X.env
      standAt apos.atName
      let (f,first) <- holding [ov] (getMethod ov m pl)
      callWith pos f first (backTo pos (starEach [] X.env)) (backToKw pos (keywordEach [] X.env))):=by rfl) :
    PE X (.Call (.Attribute o m apos) [] [] pos) (zpj C m sp dvs Ek ta tNil):=by
  obtain ⟨f,fd,F,hm,hb⟩:=D.ex
  intro pins s σ H Q I h
  refine PySem.W.methodCall_KW (pl:=pl) (thn (he pins s σ H _ I h) fun u s1 ⟨x,H1,I1,rx,a,dx,fs,ex,ea,l,q⟩=>?_) ht
  subst ex
  obtain rfl:u=Value.ref a:=rx
  refine zlf I1 ea c hm l ?_
  exact PySem.W.callWith_K0 (first:=[.ref a]) I1.kIn hm.kp (zof (us:=[.ref a]) (vs:=[.ref a]) F hr (hb _ hin) hx I1 (.cons rfl .nil) q)
theorem znb {pins:List (Addr×Obj)} {σ:St} {H:Hp} {s:Shared} {Q:VK} {us:List Value} {vs:List V} (M:Mk X.K C f) (F:FnOk X.prog X.w X.K X.mg X.base CX k f fd ps sp) (hr:Room (k+1) X.A) (hb:BindsV X.K fd ps dvs)
    (hx:zfk CX X Ek) (I:Inv X pins σ H s) (r:Vals vs us)
    (h:∀ x dx,H x=none->H dx=none->dx≠x->sp (.ref x :: (vs++dvs)) (upd (upd H dx (.own x)) x (.ins C dx [])) (fun v H2=>v = .non/\Q (.ref x) H2) (fun v d H'=>Ek v d σ H')) :
    wpAny (model X.prog X.w) X.A (call (.ref C) us) (EP X pins σ Q) X.xe s:=by
  obtain ⟨ds,hd,hb⟩:=hb
  have hq:=h (s.heap.objs.size+1) s.heap.objs.size (I.hok.fresh (Nat.le_succ _)) (I.hok.fresh (Nat.le_refl _)) (Nat.ne_of_lt (Nat.lt_succ_self _))
  have I2:=Inv.made (C:=C) I
  have r2:Vals (V.ref (s.heap.objs.size+1) :: (vs++dvs)) (Value.ref (s.heap.objs.size+1) :: (us++ds)):=.cons rfl (r.append hd)
  have hl:(Value.ref (s.heap.objs.size+1) :: us++ds).length=ps.length:=by
    have e:=r2.length
    rw [F.len _ _ _ _ hq] at e
    exact e.symm
  refine wpAny_call (ztr (f:=f) I.kIn M.makes M.init (beq_iff_eq.mp M.fn) (codeAny_mono (F.run _ X.stack _ _ ⟨Value.ref (s.heap.objs.size+1) :: us,[]⟩ (Value.ref (s.heap.objs.size+1) :: (us++ds)) _ _ _ (hr.make C us [])
    (I2.env0.make C us []) (hb _ (Value.ref (s.heap.objs.size+1) :: us) I2.kIn hl) r2 hq) fun r s' hq'=>?_))
  cases r with
  | error e=>exact hx pins σ _ _ e s' I2 hq'
  | ok fl =>
    cases fl with
    | ret u =>
      obtain ⟨v,H',I3,rv,ev,q3⟩:=I2.after hq'
      subst ev
      exact ⟨rv,⟨V.ref (s.heap.objs.size+1),H',I3,rfl,q3⟩⟩
    | next=>exact False.elim hq'
    | brk=>exact False.elim hq'
    | cont=>exact False.elim hq'
theorem zhd (D:MkD X.prog X.w X.K X.mg X.base CX k C ps dss sp) (hin:dvs∈dss) (hr:Room (k+1) X.A) (hx:zfk CX X Ek) (hg:Gl X x) (hm:X.mg x=some (.ref C))
    (ha:PA X (e :: es) t) (hdb:(x == ("__debug__" : Str))=false:=by decide) (he:starEach (e :: es) X.env=(false,eval e X.env) :: starEach es X.env:=by rfl) (hpl:(backTo pos (starEach es X.env)).any (·.1)=false:=by rfl) :
    PE X (.Call (.Name x p) (e :: es) [] pos) (tMakeX C sp dvs Ek t):=by
  obtain ⟨f,fd,F,M,hb⟩:=D.ex
  intro pins s σ H Q I h
  refine wpAny_Call_Name_kw (zhx I hg hm ?_ hdb)
  refine PySem.W.callWith_K (h₀:=X.base) I.ok.mod.kin M.kp (thn (ha pos pins s σ H _ I h) fun us s1 ⟨vs,H1,I1,r,q⟩=>⟨I1.kIn,?_⟩) he hpl
  exact znb M F hr (hb _ hin) hx I1 r q
theorem znc (D:MkD X.prog X.w X.K X.mg X.base CX k C ps dss sp) (hin:dvs∈dss) (hr:Room (k+1) X.A) (hx:zfk CX X Ek) (hg:Gl X x) (hm:X.mg x=some (.ref C))
    (hdb:(x == ("__debug__" : Str))=false:=by decide):PE X (.Call (.Name x p) [] [] pos) (tMakeX C sp dvs Ek tNil):=by
  obtain ⟨f,fd,F,M,hb⟩:=D.ex
  intro pins s σ H Q I h
  refine wpAny_Call_Name_kw (zhx I hg hm ?_ hdb)
  exact PySem.W.callWith_K0 I.kIn M.kp (znb (us:=[]) M F hr (hb _ hin) hx I .nil h)
end
section
variable {X:Cx}
end
def Itrs (lo c:Int) (n:Nat):It:=⟨fun i _=>i<n,fun i H x H'=>H'=H/\x = .int (lo+i*c),fun i _=>n<=i⟩
structure RngOk (i j c:Int) (n:Nat):Prop where
 nz:c≠0
 np:Builtin.divisionGoesByPylong (j-i) c=false
 sm:Builtin.Range.small i j c=true
 eq:(n:Int)=Builtin.Range.rangeSize i j c
def iRng3 (ta:TA):TI:=fun σ H R=>ta σ H fun vs H1=>∃ i j c n,vs = [.int i,.int j,.int c]/\RngOk i j c n/\R (Itrs i c n) H1
section
variable {X:Cx} {tg:Expr}
end
theorem zfg {wi:TI} {g:TG} {tb:TS} {D:Ends} {σ:St} {H:Hp} (h:∀ Z:It->Hp->Prop,(∀ J H1,(∃ W:Nat->Nat->St->Hp->Prop,(∃ m,W 0 m σ H1)/\∀ i m σ H,W i m σ H ->
 (J.stop i H/\D.nx σ H)\/(J.go i H/\∃ N:St->Hp->Prop,(∀ σ' H',N σ' H'->∃ m',m' < m/\W (i+1) m' σ' H')/\∀ x H',J.yld i H x H'->g x σ H' fun σ2 H2=>tb { D with nx:=N,ct:=N,bk:=D.nx } σ2 H2))->Z J H1)->wi σ H Z):tFor wi g tb D σ H:=h _ fun _ _ x=>x
theorem pickM {K:PySem.W.Frag} {H:Hp} {t:Addr} {i:Int} {Q:VK} (xs:List Int) (h0:0<=i) (h1:i<xs.length) (k:∀ z:Int,z∈xs->Q (.int z) (upd H t (.lst (xs.map V.int)))):rIxL K (.ref t) (.int i) (upd H t (.lst (xs.map V.int))) Q:=by
 have:=zga (xs:=xs.map V.int) (j:=i.toNat) (v:=V.int (xs[i.toNat]'(by omega))) (by simp)
 rw [Int.toNat_of_nonneg h0] at this
 exact zjp (.of zac) this (k _ (List.getElem_mem _))
section
variable {X:Cx}
end
end L2
namespace Sw
theorem q_cast_ne {d:Int} (h:d≠0):(d:Rat)≠0:=by
 intro z
 exact h (Rat.intCast_inj.mp (by rw [z]; rfl))
theorem q_cast_pos {d:Int} (h:0<d):(0:Rat)<(d:Rat):=by
 have:((0:Int):Rat)<(d:Rat):=Rat.intCast_lt_intCast.mpr h
 exact this
theorem q_self (q:Rat):(q.num:Rat) / ((q.den:Int):Rat)=q:=by
 rw [<- Rat.divInt_eq_div]; exact Rat.num_divInt_den q
theorem q_den_pos (q:Rat):0<(q.den:Int):=by
 have:=q.den_nz
 omega
theorem q_den_ne (q:Rat):(q.den:Int)≠0:=by
 have:=q.den_nz
 omega
theorem q_num (q:Rat):(q.num:Rat)=q*((q.den:Int):Rat):=by
 have h:=q_self q
 have d:=q_cast_ne (q_den_ne q)
 grind
theorem q_low (q:Rat):dv q.num q.den = 1:=by
 unfold dv
 have:=q.reduced
 unfold Nat.Coprime at this
 show ((Nat.gcd q.num.natAbs (q.den:Int).natAbs:Nat):Int) = 1
 rw [Int.natAbs_natCast,this]
 rfl
theorem q_fr (q:Rat):Fr q.num q.den:=⟨q_den_pos q,q_low q⟩
theorem fr_q {n d:Int} (f:Fr n d):((n:Rat) / (d:Rat)).num=n/\((((n:Rat) / (d:Rat)).den:Nat):Int)=d:=by
 have hd:d≠0:=by have:=f.pos; omega
 refine Fr.uniq (q_fr _) f ?_
 have h:=q_num ((n:Rat) / (d:Rat))
 generalize hq:(n:Rat) / (d:Rat)=q at h ⊢
 have e:(n:Rat)=q*d:=by have:=q_cast_ne hd; grind
 have:((q.num*d:Int):Rat)=((n*(q.den:Int):Int):Rat):=by
  rw [Rat.intCast_mul,Rat.intCast_mul]
  grind
 exact Rat.intCast_inj.mp this
theorem q_cross {q:Rat} {n d:Int} (hd:d≠0) (h:q=(n:Rat) / (d:Rat)):q.num*d=(q.den:Int)*n:=by
 have h1:=q_cast_ne hd
 have:((q.num*d:Int):Rat)=(((q.den:Int)*n:Int):Rat):=by
  rw [Rat.intCast_mul,Rat.intCast_mul,q_num]
  grind
 exact Rat.intCast_inj.mp this
theorem q_lt {a b:Rat}:a.num*(b.den:Int)<b.num*(a.den:Int)↔a<b:=(Rat.lt_iff a b).symm
structure SzQ (z:Nat) (q:Rat):Prop where
 n:Sz z q.num
 d:Sz z (q.den:Int)
theorem SzQ.mono {m n:Nat} {q:Rat} (h:SzQ m q) (k:m<=n):SzQ n q:=⟨h.n.mono k,h.d.mono k⟩
theorem ztx {n d x:Int} (h:dv n d = 1) (q:n ∣ d*x):n ∣ x:=zls (by rw [zwc]; exact h) q
theorem SzQ.of {z:Nat} {q:Rat} {n d:Int} (hd:d≠0) (h:q=(n:Rat) / (d:Rat)) (s1:Sz z n) (s2:Sz z d):SzQ z q:=by
 have c:=q_cross hd h
 refine ⟨?_,?_⟩
 ·by_cases hn:n = 0
  ·subst hn
   rw [Int.mul_zero] at c
   have:q.num = 0:=by
    rcases Int.mul_eq_zero.mp c with z | z
    ·exact z
    ·exact absurd z hd
   rw [this]; exact Sz.zero z
  ·exact s1.dvd (ztx (q_low q) ⟨d,c.symm⟩) hn
 ·exact s2.dvd (zls (q_low q) ⟨n,c⟩) hd
theorem SzQ.int {z:Nat} {n:Int} (h:Sz (z+1) n):SzQ (z+1) (n:Rat):=⟨by rw [Rat.num_intCast]; exact h,by rw [Rat.den_intCast]; exact Sz.one z⟩
theorem add_q (a b:Rat):((a.num*(b.den:Int)+b.num*(a.den:Int):Int):Rat) / (((a.den:Int)*(b.den:Int):Int):Rat)=a+b:=by
 rw [Rat.intCast_add,Rat.intCast_mul,Rat.intCast_mul,Rat.intCast_mul,q_num a,q_num b]
 have h1:=q_cast_ne (q_den_ne a)
 have h2:=q_cast_ne (q_den_ne b)
 grind
theorem sub_q (a b:Rat):((a.num*(b.den:Int)-b.num*(a.den:Int):Int):Rat) / (((a.den:Int)*(b.den:Int):Int):Rat)=a-b:=by
 rw [Rat.intCast_sub,Rat.intCast_mul,Rat.intCast_mul,Rat.intCast_mul,q_num a,q_num b]
 have h1:=q_cast_ne (q_den_ne a)
 have h2:=q_cast_ne (q_den_ne b)
 grind
theorem SzQ.add {m n:Nat} {a b:Rat} (h:SzQ m a) (k:SzQ n b):SzQ (m+n+1) (a+b):=by
 refine .of (Int.mul_ne_zero (q_den_ne a) (q_den_ne b)) (add_q a b).symm ?_ ((h.d.mul k.d).mono (by omega))
 exact (h.n.mul k.d).add ((k.n.mul h.d).mono (by omega))
theorem SzQ.sub {m n:Nat} {a b:Rat} (h:SzQ m a) (k:SzQ n b):SzQ (m+n+1) (a-b):=by
 refine .of (Int.mul_ne_zero (q_den_ne a) (q_den_ne b)) (sub_q a b).symm ?_ ((h.d.mul k.d).mono (by omega))
 exact (h.n.mul k.d).sub ((k.n.mul h.d).mono (by omega))
end Sw
namespace L2
def fq (q:Rat):List V:=[.int q.num,.int (q.den:Int)]
theorem zyw {t b:Int} (hb:b≠0):f2 (Sw.nrm (t,b))=fq ((t:Rat) / (b:Rat)):=by
 have f:=Sw.nrm_fr (q:=(t,b)) hb
 have c:=Sw.nrm_cross (q:=(t,b)) hb
 have e:((Sw.nrm (t,b)).1:Rat) / ((Sw.nrm (t,b)).2:Rat)=(t:Rat) / (b:Rat):=by
  have h1:=Sw.q_cast_ne hb
  have h2:(((Sw.nrm (t,b)).2:Int):Rat)≠0:=Sw.q_cast_ne (by have:=f.pos; omega)
  have c':(((Sw.nrm (t,b)).1*b:Int):Rat)=(((Sw.nrm (t,b)).2*t:Int):Rat):=by rw [c]
  rw [Rat.intCast_mul,Rat.intCast_mul] at c'
  grind
 have g:=Sw.fr_q f
 rw [e] at g
 unfold f2 fq
 rw [g.1,g.2]
end L2
namespace Sw
def lvl (d:Int) (r:Rat) (since:Int) (left:Rat) (at_:Int):Rat:=min (left+r*((at_ - since:Int):Rat)) (d:Rat)
end Sw
namespace L2
open PySem PySem.Spec PyProof.Rows
def But (p:Addr) (H H':Hp):Prop:=∀ b o,b≠p->H b=some o->H' b=some o
theorem Same.but {p:Addr} {H H':Hp} (h:Same H H'):But p H H':=fun b o _ e=>h b o e
theorem But.trans {p:Addr} {H H1 H2:Hp} (a:But p H H1) (b:But p H1 H2):But p H H2:=fun c o n h=>b c o n (a c o n h)
theorem zib {p:Addr} {H:Hp} {o:HO}:But p H (upd H p o):=fun b u n e=>by rw [zai n]; exact e
theorem zfh:∀ {fs:List (Str×V)} {f:Str} {v w:V},fs.lookup f=some w->(putF f v fs).length=fs.length
 | [],f,v,w,h=>by cases h
 | (g,x) :: r,f,v,w,h=>by
  unfold putF
  by_cases e:g=f
  ·rw [if_pos e]; rfl
  ·rw [if_neg e]
   have hb:(f == g)=false:=beq_eq_false_iff_ne.mpr fun z=>e z.symm
   simp only [List.lookup,hb] at h
   show (putF f v r).length+1=r.length+1
   rw [zfh h]
theorem zao:∀ {fs:List (Str×V)} {f:Str} {v:V},(putF f v fs).length<=fs.length+1
 | [],f,v=>Nat.le_refl _
 | (g,x) :: r,f,v=>by
  unfold putF
  by_cases e:g=f
  ·rw [if_pos e]; exact Nat.le_succ _
  ·rw [if_neg e]
   show (putF f v r).length+1<=r.length+1+1
   have:=zao (fs:=r) (f:=f) (v:=v)
   omega
structure FB (fs:List (Str×V)) (d:Int) (pr:Addr) (s:Int) (pl:Addr):Prop where
 dep:fs.lookup ("depth" : Str)=some (.int d)
 rat:fs.lookup ("rate" : Str)=some (.ref pr)
 sin:fs.lookup ("since" : Str)=some (.int s)
 lef:fs.lookup ("left" : Str)=some (.ref pl)
 no:∀ m:Str,¬ m = "depth" -> ¬ m = "rate" -> ¬ m = "since" -> ¬ m = "left" -> fs.lookup m=none
 len:fs.length<900
structure Bk (C:Addr) (H:Hp) (p:Addr) (d:Int) (r:Rat) (s:Int) (l:Rat):Prop where
 ex:∃ dx fs pr pl,H p=some (.ins C dx fs)/\FB fs d pr s pl/\H pr=some (.tup (fq r))/\H pl=some (.tup (fq l))
def rFld (K:PySem.W.Frag) (f:Str) (x:V) (H:Hp) (Q:VK):Prop:=∃ a C dx fs v,x = .ref a/\H a=some (.ins C dx fs)/\Cls K C/\NoAttr K C f/\fs.lookup f=some v/\Q v H
theorem tFld_eq {K:PySem.W.Frag} {ta:TE} {f:Str} {σ:St} {H:Hp} {Q:VK}:tFld K ta f σ H Q=ta σ H fun x H1=>rFld K f x H1 Q:=rfl
theorem zaj {K:PySem.W.Frag} {f:Str} {a C dx:Addr} {fs:List (Str×V)} {v:V} {H:Hp} {Q:VK} (h:H a=some (.ins C dx fs)) (c:Cls K C) (n:NoAttr K C f) (l:fs.lookup f=some v) (q:Q v H):rFld K f (.ref a) H Q:=⟨a,C,dx,fs,v,rfl,h,c,n,l,q⟩
def rSet (K:PySem.W.Frag) (f:Str) (y x:V) (H:Hp) (Z:Hp->Prop):Prop:=∃ a C dx fs,x = .ref a/\H a=some (.ins C dx fs)/\Cls K C/\NoAttr K C f/\fs.length<1000/\Z (upd H a (.ins C dx (putF f y fs)))
theorem sFld_eq {K:PySem.W.Frag} {ta tv:TE} {f:Str} {D:Ends} {σ:St} {H:Hp}:sFld K ta tv f D σ H=tv σ H fun y H1=>ta σ H1 fun x H2=>rSet K f y x H2 (D.nx σ):=rfl
theorem zch {K:PySem.W.Frag} {f:Str} {y:V} {a C dx:Addr} {fs:List (Str×V)} {H:Hp} {Z:Hp->Prop} (h:H a=some (.ins C dx fs)) (c:Cls K C) (n:NoAttr K C f) (l:fs.length<1000) (q:Z (upd H a (.ins C dx (putF f y fs)))):rSet K f y (.ref a) H Z:=⟨a,C,dx,fs,rfl,h,c,n,l,q⟩
def rMeth (C:Addr) (m:Str) (x:V) (H:Hp) (Z:Prop):Prop:=∃ a dx fs,x = .ref a/\H a=some (.ins C dx fs)/\fs.lookup m=none/\Z
theorem tMethX_eq {C:Addr} {m:Str} {sp:Sp} {dvs:List V} {Ek:XH} {ta:TE} {t:TA} {σ:St} {H:Hp} {Q:VK} :
    zpj C m sp dvs Ek ta t σ H Q=ta σ H fun x H1=>rMeth C m x H1 (t σ H1 fun vs H2=>sp (x :: (vs++dvs)) H2 Q (fun v d H'=>Ek v d σ H')):=by
  unfold zpj rMeth
  rfl
theorem zav {C:Addr} {m:Str} {a dx:Addr} {fs:List (Str×V)} {H:Hp} {Z:Prop} (h:H a=some (.ins C dx fs)) (l:fs.lookup m=none) (z:Z):rMeth C m (.ref a) H Z:=⟨a,dx,fs,rfl,h,l,z⟩
theorem zdp {H:Hp} {x dx C:Addr} (h1:H x=none) (h2:H dx=none):Same H (upd (upd H dx (.own x)) x (.ins C dx [])):=fun b o e=>by
 rw [zai (zan e h1),zai (zan e h2)]
 exact e
theorem But.same {x:Addr} {H H1 H':Hp} (b:But x H1 H') (s:Same H H1) (h:H x=none):Same H H':=fun c o e=>b c o (zan e h) (s c o e)
theorem zfl {t:TS} {D:Ends} {σ:St} {H:Hp} (h:∀ R:St->Hp->Prop,(∀ σ H,D.nx σ H->R σ H)->t { D with nx:=R } σ H):t D σ H:=h D.nx fun _ _ x=>x
structure Bd (d:Int) (r:Rat):Prop where
 d1:1<=d
 d2:d<=1000000000000
 r0:0<=r
 rz:Sw.SzQ 70 r
theorem zvg {a b:Int} {r:Rat}:(a:Rat) / ((r.den:Int):Rat)<(b:Rat)↔a<b*(r.den:Int):=by
 rw [Rat.div_lt_iff (Sw.q_cast_pos (Sw.q_den_pos r)),<- Rat.intCast_mul,Rat.intCast_lt_intCast]
theorem zsc {a b:Int} {r:Rat}:(a:Rat) / ((r.den:Int):Rat)<(b:Rat) / ((r.den:Int):Rat)↔a<b:=by
 have dn:=Sw.q_cast_ne (Sw.q_den_ne r)
 rw [Rat.div_lt_iff (Sw.q_cast_pos (Sw.q_den_pos r)),show (b:Rat) / ((r.den:Int):Rat)*((r.den:Int):Rat)=(b:Rat) by grind,Rat.intCast_lt_intCast]
def tick (n level:Int) (r:Rat):Int:=(((n:Rat)-(level:Rat) / ((r.den:Int):Rat)) / r).ceil
theorem r_pos {r:Rat} (h:0<r.num):0<r:=by
 have e:=Sw.q_num r
 have dp:=Sw.q_cast_pos (Sw.q_den_pos r)
 have np:=Sw.q_cast_pos h
 have:=Sw.q_self r
 rcases Rat.le_iff_lt_or_eq.mp (Rat.num_nonneg.mp (Int.le_of_lt h)) with q | q
 ·exact q
 ·rw [<- q] at h
  exact absurd h (by decide)
theorem zsd {n level:Int} {r:Rat} (h0:0<r.num):n*(r.den:Int)-level<=r.num*tick n level r/\r.num*(tick n level r-1)<n*(r.den:Int)-level:=by
 have dn:=Sw.q_cast_ne (Sw.q_den_ne r)
 have rp:=r_pos h0
 unfold tick
 generalize hx:((n:Rat)-(level:Rat) / ((r.den:Int):Rat)) / r=x
 have rn:r≠0:=by grind
 have e:r*x=(n:Rat)-(level:Rat) / ((r.den:Int):Rat):=by grind
 have e1:(n:Rat)-(level:Rat) / ((r.den:Int):Rat)=((n*(r.den:Int)-level:Int):Rat) / ((r.den:Int):Rat):=by
  rw [Rat.intCast_sub,Rat.intCast_mul]
  grind
 rw [e1] at e
 have e2:∀ c:Int,((r.num*c:Int):Rat) / ((r.den:Int):Rat)=r*(c:Rat):=fun c=>by
  rw [Rat.intCast_mul,Sw.q_num r]
  grind
 have h1:x<=(x.ceil:Rat):=Rat.le_ceil
 have h2:(x.ceil:Rat)<x+1:=Rat.ceil_lt
 have h3:r*x<=r*(x.ceil:Rat):=Rat.mul_le_mul_of_nonneg_left h1 (by grind)
 have h4:r*((x.ceil-1:Int):Rat)<r*x:=by
  rw [Rat.mul_lt_mul_left rp,Rat.intCast_sub]
  have:((1:Int):Rat) = 1:=rfl
  grind
 refine ⟨?_,?_⟩
 ·have:¬ (((r.num*x.ceil:Int):Rat) / ((r.den:Int):Rat)<((n*(r.den:Int)-level:Int):Rat) / ((r.den:Int):Rat)):=by rw [e2,<- e]; grind
  rw [zsc] at this
  omega
 ·rw [<- e2,e,zsc] at h4
  exact h4
theorem zty {n level:Int} {r:Rat} (h0:0<r.num) (h:¬ n*(r.den:Int)<=level):0<tick n level r:=by
 have h1:=(zsd (n:=n) (level:=level) h0).1
 rcases Int.lt_or_le 0 (tick n level r) with q | q
 ·exact q
 ·have:=Int.mul_nonneg_of_nonpos_of_nonpos (a:=-r.num) (b:=tick n level r) (by omega) q
  rw [Int.neg_mul] at this
  omega
theorem zwk {n level:Int} {r:Rat} (h0:0<r.num) (hl:0<=level) (hn:0<=n) (h:¬ n*(r.den:Int)<=level):tick n level r<=n*(r.den:Int):=by
 have h2:=(zsd (n:=n) (level:=level) h0).2
 have h3:=zty h0 h
 have:1*(tick n level r-1)<=r.num*(tick n level r-1):=Int.mul_le_mul_of_nonneg_right (by omega) (by omega)
 omega
end L2
namespace Sw
end Sw
namespace L2
open PySem PySem.Spec PyProof.Rows
section
variable {κ:Type} [DecidableEq κ]
def valV (kvs:List (κ×V)) (k:κ):Option V:=(kvs.find? fun kv=>decide (kv.1=k)).map (·.2)
def putK (kvs:List (κ×V)) (k:κ) (v:V):List (κ×V) :=
 if (kvs.any fun kv=>decide (kv.1=k))=true then kvs.map (fun kv=>if kv.1=k then (kv.1,v) else kv) else kvs++[(k,v)]
def dropK (kvs:List (κ×V)) (k:κ):List (κ×V):=kvs.filter fun kv=>decide (kv.1≠k)
theorem zdz {p:κ×V} {r:List (κ×V)} {k:κ} (e:p.1=k):valV (p :: r) k=some p.2:=by simp [valV,List.find?_cons,e]
theorem zea {p:κ×V} {r:List (κ×V)} {k:κ} (e:¬ p.1=k):valV (p :: r) k=valV r k:=by simp [valV,List.find?_cons,e]
theorem zft (k:κ):∀ kvs:List (κ×V),(kvs.any fun kv=>decide (kv.1=k))=(valV kvs k).isSome
 | []=>rfl
 | p :: r=>by
  rw [List.any_cons]
  by_cases e:p.1=k
  ·simp only [zdz e,decide_eq_true e,Bool.true_or,Option.isSome_some]
  ·rw [zea e,decide_eq_false e,Bool.false_or]; exact zft k r
theorem zpk (k j:κ) (y:V):∀ kvs:List (κ×V),valV (kvs.map fun kv=>if kv.1=k then (kv.1,y) else kv) j=(valV kvs j).map fun x=>if j=k then y else x
 | []=>rfl
 | p :: r=>by
  have ih:=zpk k j y r
  rw [List.map_cons]
  by_cases h:p.1=k
  ·rw [if_pos h]
   by_cases e:p.1=j
   ·rw [zdz (p:=(p.1,y)) e,zdz e,Option.map_some,if_pos (e.symm.trans h)]
   ·rw [zea (p:=(p.1,y)) e,zea e,ih]
  ·rw [if_neg h]
   by_cases e:p.1=j
   ·rw [zdz (p:=p) e,zdz e,Option.map_some,if_neg (fun z=>h (e.trans z))]
   ·rw [zea (p:=p) e,zea e,ih]
theorem znd (k j:κ) (y:V):∀ kvs:List (κ×V),valV kvs k=none->valV (kvs++[(k,y)]) j=if j=k then some y else valV kvs j
 | [],_=>by
  by_cases e:k=j
  ·rw [if_pos e.symm]; exact zdz (p:=(k,y)) e
  ·rw [if_neg (fun z=>e z.symm)]; exact zea (p:=(k,y)) e
 | p :: r,hn=>by
  rw [List.cons_append]
  have hk:¬ p.1=k:=fun z=>by rw [zdz z] at hn; cases hn
  rw [zea hk] at hn
  have ih:=znd k j y r hn
  by_cases e:p.1=j
  ·rw [zdz e,zdz e,if_neg (fun z=>hk (e.trans z))]
  ·rw [zea e,zea e,ih]
theorem ztz (kvs:List (κ×V)) (k j:κ) (y:V):valV (putK kvs k y) j=if j=k then some y else valV kvs j:=by
 unfold putK
 by_cases a:(kvs.any fun kv=>decide (kv.1=k))=true
 ·rw [if_pos a,zpk]
  rw [zft] at a
  by_cases e:j=k
  ·obtain ⟨x,hx⟩:=Option.isSome_iff_exists.mp a
   rw [if_pos e,e,hx,Option.map_some,if_pos rfl]
  ·rw [if_neg e]
   cases valV kvs j with
   | none=>rfl
   | some x=>rw [Option.map_some,if_neg e]
 ·rw [if_neg a]
  refine znd k j y kvs ?_
  rw [zft] at a
  cases q:valV kvs k with
  | none=>rfl
  | some x=>rw [q] at a; exact (a rfl).elim
theorem zed (kvs:List (κ×V)) (k:κ) (v:V):(putK kvs k v).length<=kvs.length+1:=by
 unfold putK
 split
 ·rw [List.length_map]; omega
 ·rw [List.length_append,List.length_cons,List.length_nil]; omega
theorem RelO.isSome_eq {o:Option V} {u:Option Value} (r:RelO o u):o.isSome=u.isSome:=by
 cases o with
 | none=>cases u with
  | none=>rfl
  | some _=>exact (show False from r).elim
 | some _=>cases u with
  | none=>exact (show False from r).elim
  | some _=>rfl
theorem KV.val {kvs:List (κ×V)} {vs:List (κ×Value)} (r:KV kvs vs) (k:κ):RelO (valV kvs k) (valueAt vs k):=by
 unfold KV at r
 induction r with
 | nil=>exact True.intro
 | @cons p q ps qs h t ih =>
  obtain ⟨h1,h2⟩:=h
  by_cases e:p.1=k
  ·have e':q.1=k:=h1.symm.trans e
   have b:valueAt (q :: qs) k=some q.2:=by simp [valueAt,List.find?_cons,e']
   rw [zdz e,b]; exact h2
  ·have e':¬ q.1=k:=fun z=>e (h1.trans z)
   have b:valueAt (q :: qs) k=valueAt qs k:=by simp [valueAt,List.find?_cons,e']
   rw [zea e,b]; exact ih
theorem KV.any {kvs:List (κ×V)} {vs:List (κ×Value)} (r:KV kvs vs) (k:κ):(kvs.any fun kv=>decide (kv.1=k))=vs.any fun kv=>decide (kv.1=k):=by
 unfold KV at r
 induction r with
 | nil=>rfl
 | cons h t ih=>rw [List.any_cons,List.any_cons,ih,h.1]
theorem KV.repl {kvs:List (κ×V)} {vs:List (κ×Value)} (r:KV kvs vs) (k:κ) {y:V} {u:Value} (ry:RelV y u) :
    KV (kvs.map fun kv=>if kv.1=k then (kv.1,y) else kv) (vs.map fun kv=>if kv.1=k then (kv.1,u) else kv):=by
  unfold KV at r ⊢
  induction r with
  | nil=>exact .nil
  | @cons p q ps qs h t ih =>
    rw [List.map_cons,List.map_cons]
    refine .cons ?_ ih
    obtain ⟨h1,h2⟩:=h
    by_cases e:p.1=k
    · rw [if_pos e,if_pos (h1.symm.trans e)]; exact ⟨h1,ry⟩
    · rw [if_neg e,if_neg (fun z=>e (h1.trans z))]; exact ⟨h1,h2⟩
theorem KV.put {kvs:List (κ×V)} {vs:List (κ×Value)} (r:KV kvs vs) (k:κ) {y:V} {u:Value} (ry:RelV y u):KV (putK kvs k y) (stored vs k u):=by
 unfold putK stored
 rw [r.any k]
 by_cases e:(vs.any fun kv=>decide (kv.1=k))=true
 ·rw [if_pos e,if_pos e]; exact r.repl k ry
 ·rw [if_neg e,if_neg e]; exact Paired.snoc r ⟨rfl,ry⟩
theorem KV.length {kvs:List (κ×V)} {vs:List (κ×Value)} (r:KV kvs vs):kvs.length=vs.length:=Paired.length r
end
theorem kV_is {P:Program} {w:World} {k:Key} {u:Value} (r:RelV (kV k) u):(zca P w).is k u=true:=by
 cases k with
 | inl i=>obtain ⟨t,e⟩:=(show ∃ t,u=Value.int i t from r); subst e; exact znz P w i t
 | inr x=>obtain ⟨t,e⟩:=(show ∃ t,u=Value.str x t from r); subst e; exact zoa P w x t
theorem zne {P:Program} {w:World}:∀ {ks:List Key} {us:List Value},Vals (ks.map kV) us->ItemsAre (zca P w) ks us
 | [],_,r=>by rw [List.map_nil] at r; cases r; exact .nil
 | k :: ks,_,r=>by
  rw [List.map_cons] at r
  cases r with
  | cons h t=>exact .cons (kV_is h) (zne t)
abbrev KT (H:Hp):List (List Key×V)->List (List Key×Addr×Value)->Prop:=Paired fun p q=>p.1=q.1/\H q.2.1=some (.tup (p.1.map kV))/\RelV p.2 q.2.2
theorem KT.val {H:Hp} {kvs:List (List Key×V)} {xs:List (List Key×Addr×Value)} (r:KT H kvs xs) (k:List Key):RelO (valV kvs k) ((atKey xs k).map (·.2)):=by
 induction r with
 | nil=>exact True.intro
 | @cons p q ps qs h t ih =>
  obtain ⟨h1,_,h2⟩:=h
  by_cases e:p.1=k
  ·have e':q.1=k:=h1.symm.trans e
   have b:atKey (q :: qs) k=some q.2:=by simp [atKey,List.find?_cons,e']
   rw [zdz e,b]; exact h2
  ·have e':¬ q.1=k:=fun z=>e (h1.trans z)
   have b:atKey (q :: qs) k=atKey qs k:=by simp [atKey,List.find?_cons,e']
   rw [zea e,b]; exact ih
theorem KT.repl {H:Hp} {kvs:List (List Key×V)} {xs:List (List Key×Addr×Value)} (r:KT H kvs xs) (k:List Key) {y:V} {u:Value} (ry:RelV y u) :
    KT H (kvs.map fun kv=>if kv.1=k then (kv.1,y) else kv) (xs.map (putAt k u)):=by
  induction r with
  | nil=>exact .nil
  | @cons p q ps qs h t ih =>
    rw [List.map_cons,List.map_cons]
    refine .cons ?_ ih
    obtain ⟨h1,h2,h3⟩:=h
    unfold putAt
    by_cases e:p.1=k
    · rw [if_pos e,if_pos (h1.symm.trans e)]; exact ⟨h1,h2,ry⟩
    · rw [if_neg e,if_neg (fun z=>e (h1.trans z))]; exact ⟨h1,h2,h3⟩
theorem KT.put {H:Hp} {kvs:List (List Key×V)} {xs:List (List Key×Addr×Value)} (r:KT H kvs xs) (k:List Key) {b:Addr} {y:V} {u:Value} (hb:H b=some (.tup (k.map kV))) (ry:RelV y u) :
    KT H (putK kvs k y) (storedH xs k b u):=by
  have e:(kvs.any fun kv=>decide (kv.1=k))=(atKey xs k).isSome:=by
    rw [zft,(r.val k).isSome_eq,Option.isSome_map]
  unfold putK storedH
  rw [e]
  by_cases q:(atKey xs k).isSome=true
  · rw [if_pos q,if_pos q]; exact r.repl k ry
  · rw [if_neg q,if_neg q]; exact Paired.snoc r ⟨rfl,hb,ry⟩
theorem KT.keeps {H H':Hp} {kvs:List (List Key×V)} {xs:List (List Key×Addr×Value)} (r:KT H kvs xs) (ht:∀ b ys,H b=some (.tup ys)->H' b=some (.tup ys)):KT H' kvs xs :=
 Paired.mapP r fun _ _ z=>⟨z.1,ht _ _ z.2.1,z.2.2⟩
section
variable {P:Program} {w:World} {H:Hp} {h:Heap} {a:Addr}
theorem rd_of {u:HO} (ok:HOk P w H h) (e:Rd H a u):ObjOk P w H h a u:=e.ok ok
theorem dk_rd {kvs:List (Key×V)} (ok:HOk P w H h) (e:Rd H a (.dK kvs)):kvs.length<=sizeLine/\(a == sysModules)=false/\∃ vs,KV kvs vs/\h.DictOf (zca P w) a vs :=
 show ObjOk P w H h a (.dK kvs) from rd_of ok e
theorem dk_of {kvs:List (Key×V)} (ok:HOk P w H h) (e:H a=some (.dK kvs)):kvs.length<=sizeLine/\(a == sysModules)=false/\∃ vs,KV kvs vs/\h.DictOf (zca P w) a vs:=dk_rd ok (.inl e)
theorem znf {ks:List Key} (ok:HOk P w H h) (e:H a=some (.tup (ks.map kV))):(tupleKind (zca P w)).is h ks a:=by
 obtain ⟨_,its,r,o,h1,h2,n,h3⟩:=(show ObjOk P w H h a (.tup (ks.map kV)) from ok a _ e)
 exact ⟨o,its.toArray,n,h1,h2,h3,by simpa using zne r⟩
theorem dt_rd {kvs:List (List Key×V)} (ok:HOk P w H h) (e:Rd H a (.dT kvs)):kvs.length<=sizeLine/\(a == sysModules)=false /\
    ∃ xs,KT H kvs xs/\h.DictOfH (tupleKind (zca P w)) a xs:=by
  obtain ⟨z,y,xs,r,o,es,ep,h1,h2,h3,h4,h5⟩:=(show ObjOk P w H h a (.dT kvs) from rd_of ok e)
  refine ⟨z,y,xs,r,o,es,ep,h1,h2,h3,h4,fun x hx=>?_,h5⟩
  have all:∀ {l:List (List Key×V)} {m:List (List Key×Addr×Value)},KT H l m->∀ x∈m,(tupleKind (zca P w)).is h x.1 x.2.1:=by
    intro l m q
    induction q with
    | nil=>intro x hx; exact nomatch hx
    | @cons p q ps qs hq t ih =>
      intro x hx
      rcases List.mem_cons.mp hx with e | hx
      · subst e
        exact znf ok (by rw [<- hq.1]; exact hq.2.1)
      · exact ih x hx
  exact all r x hx
theorem dt_of {kvs:List (List Key×V)} (ok:HOk P w H h) (e:H a=some (.dT kvs)):kvs.length<=sizeLine/\(a == sysModules)=false /\
    ∃ xs,KT H kvs xs/\h.DictOfH (tupleKind (zca P w)) a xs:=dt_rd ok (.inl e)
end
def DGet (H:Hp) (a:Addr) (y:V) (r:Option V):Prop :=
 (∃ kvs k,Rd H a (.dK kvs)/\y=kV k/\r=valV kvs k)\/∃ kvs k b,Rd H a (.dT kvs)/\y = .ref b/\H b=some (.tup (k.map kV))/\r=valV kvs k
def DPut (H:Hp) (a:Addr) (y v:V) (H':Hp):Prop :=
 (∃ kvs k,H a=some (.dK kvs)/\y=kV k/\kvs.length<sizeLine/\H'=upd H a (.dK (putK kvs k v))) \/
 ∃ kvs k b,H a=some (.dT kvs)/\y = .ref b/\H b=some (.tup (k.map kV))/\kvs.length<sizeLine/\H'=upd H a (.dT (putK kvs k v))
theorem DGet.k {H:Hp} {a:Addr} {kvs:List (Key×V)} {k:Key} (e:H a=some (.dK kvs)):DGet H a (kV k) (valV kvs k):=.inl ⟨kvs,k,.inl e,rfl,rfl⟩
theorem DPut.k {H:Hp} {a:Addr} {kvs:List (Key×V)} {k:Key} {v:V} (e:H a=some (.dK kvs)) (hl:kvs.length<sizeLine):DPut H a (kV k) v (upd H a (.dK (putK kvs k v))):=.inl ⟨kvs,k,e,rfl,hl,rfl⟩
section
variable {X:Cx} {pins:List (Addr×Obj)} {σ:St} {H:Hp} {s:Shared} {a:Addr} {y v:V} {u r:Value} {o:Option V} {A:Around} {E:Value->Shared->Prop}
theorem Inv.big (I:Inv X pins σ H s):sysModules<s.heap.objs.size:=by
 have h:mainGlobals<s.heap.objs.size:=(I.mod.glob.keeps I.bk).lt
 exact Nat.lt_trans (by decide) h
theorem zse {Q:Value->Shared->Prop} (hu:A.units+1<cLine) (I:Inv X pins σ H s) (g:DGet H a y (some v)) (ry:RelV y u) (h:∀ w' s',Inv X pins σ H s'->RelV v w'->Q w' s') :
    wpAny (model X.prog X.w) A (getItem (.ref a) u) Q E s:=by
  rcases g with ⟨kvs,k,e,ey,l⟩ | ⟨kvs,k,b,e,ey,eb,l⟩
  · subst ey
    obtain ⟨z,hd,vs,rel,dd⟩:=dk_rd I.hok e
    obtain ⟨w',hw,rw'⟩:=RelO.some_of (v:=v) (o:=valueAt vs k) (by rw [l]; exact rel.val k)
    exact wpAny_getItem_of (kV_is ry) dd.mapOf hw (h w' _ (I.tok _) rw')
  · subst ey
    cases (show u=Value.ref b from ry)
    obtain ⟨z,hd,xs,rel,dd⟩:=dt_rd I.hok e
    obtain ⟨w',hw,rw'⟩:=RelO.some_of (v:=v) (o:=(atKey xs k).map (·.2)) (by rw [l]; exact rel.val k)
    obtain ⟨p,hp,hp2⟩:=Option.map_eq_some_iff.mp hw
    refine wpAny_getItem_heap (tupleKind_room_in1 hu) (znf I.hok eb) dd hp ?_
    rw [hp2]
    exact h w' _ (I.tok _) rw'
theorem d_in {Q:Value->Shared->Prop} (hu:A.units+1<cLine) (I:Inv X pins σ H s) (g:DGet H a y o) (ry:RelV y u) (h:∀ s',Inv X pins σ H s'->Q (.bool o.isSome) s') :
    wpAny (model X.prog X.w) A (compareOp .In u (.ref a)) Q E s:=by
  rcases g with ⟨kvs,k,e,ey,l⟩ | ⟨kvs,k,b,e,ey,eb,l⟩
  · subst ey
    obtain ⟨z,hd,vs,rel,dd⟩:=dk_rd I.hok e
    refine wpAny_in_of (kV_is ry) hd dd.mapOf ?_
    rw [<- (rel.val k).isSome_eq,<- l]
    exact h _ (I.tok _)
  · subst ey
    cases (show u=Value.ref b from ry)
    obtain ⟨z,hd,xs,rel,dd⟩:=dt_rd I.hok e
    refine wpAny_in_heap (tupleKind_room_in1 hu) (znf I.hok eb) hd dd ?_
    have q:=(rel.val k).isSome_eq
    rw [Option.isSome_map] at q
    rw [<- q,<- l]
    exact h _ (I.tok _)
theorem zwl {Q:Value->Shared->Prop} (hu:A.units+1<cLine) (I:Inv X pins σ H s) (g:DGet H a y o) (ry:RelV y u) (h:∀ s',Inv X pins σ H s'->Q (.bool (!o.isSome)) s') :
    wpAny (model X.prog X.w) A (compareOp .NotIn u (.ref a)) Q E s:=by
  rcases g with ⟨kvs,k,e,ey,l⟩ | ⟨kvs,k,b,e,ey,eb,l⟩
  · subst ey
    obtain ⟨z,hd,vs,rel,dd⟩:=dk_rd I.hok e
    refine wpAny_notIn_of (kV_is ry) hd dd.mapOf ?_
    rw [<- (rel.val k).isSome_eq,<- l]
    exact h _ (I.tok _)
  · subst ey
    cases (show u=Value.ref b from ry)
    obtain ⟨z,hd,xs,rel,dd⟩:=dt_rd I.hok e
    refine wpAny_notIn_heap (tupleKind_room_in1 hu) (znf I.hok eb) hd dd ?_
    have q:=(rel.val k).isSome_eq
    rw [Option.isSome_map] at q
    rw [<- q,<- l]
    exact h _ (I.tok _)
theorem zog {h':Heap} {t':Nat} {ob:HO} (I:Inv X pins σ H s) (mu:Mut (H a)) (hs:Heap.SameBut a s.heap h') (he:∃ q,h'.get? a=some q) (new:ObjOk X.prog X.w (upd H a ob) h' a ob) :
    Inv X pins σ (upd H a ob) { s with heap:=h',toks:=t' } :=
  I.write (x:=a) (e:=a) mu (.inl rfl) (fun b q hb z=>(hs.2 b hb).trans z) he new
theorem zvh {P:Program} {w:World} {H':Hp} {h':Heap} {kvs:List (Key×V)} {vs:List (Key×Value)} (z:kvs.length<=sizeLine) (hd:(a == sysModules)=false) (rel:KV kvs vs) (dd:h'.DictOf (zca P w) a vs) :
    ObjOk P w H' h' a (.dK kvs):=⟨z,hd,vs,rel,dd⟩
theorem zsf {H':Hp} {Q:Unit->Shared->Prop} (hu:A.units+1<cLine) (I:Inv X pins σ H s) (g:DPut H a y v H') (ry:RelV y u) (rv:RelV v r) (h:∀ s',Inv X pins σ H' s'->Q () s') :
    wpAny (model X.prog X.w) A (setItem (.ref a) u r) Q E s:=by
  rcases g with ⟨kvs,k,e,ey,l,eH⟩ | ⟨kvs,k,b,e,ey,eb,l,eH⟩
  · subst ey eH
    obtain ⟨z,hd,vs,rel,dd⟩:=dk_of I.hok e
    have hz:vs.length<=sizeLine:=by rw [<- rel.length]; exact z
    have hl:(putK kvs k v).length<=sizeLine:=by have:=zed kvs k v; omega
    refine wpAny_setItem_pairs (hsz:=hz) (kV_is ry) dd fun h' dd' hs=>h _ ?_
    have he:∃ q,h'.get? a=some q:=let ⟨q,_,_,hq,_⟩:=dd'; ⟨q,hq⟩
    exact zog I (by rw [e]; exact True.intro) hs he (zvh hl hd (rel.put k rv) dd')
  · subst ey eH
    cases (show u=Value.ref b from ry)
    obtain ⟨z,hd,xs,rel,dd⟩:=dt_of I.hok e
    have hz:xs.length<=sizeLine:=by rw [<- Paired.length rel]; exact z
    have hl:(putK kvs k v).length<=sizeLine:=by have:=zed kvs k v; omega
    refine wpAny_setItem_heap (hsz:=hz) (tupleKind_room_in1 hu) (znf I.hok eb) dd fun h' dd' hs=>h _ ?_
    obtain ⟨q,es,ep,hq,h2,h3,h4,_,h5⟩:=dd'
    refine zog I (by rw [e]; exact True.intro) hs ⟨q,hq⟩ ⟨hl,hd,_,(rel.put k eb rv).keeps fun c ys ec=>?_,q,es,ep,hq,h2,h3,h4,h5⟩
    rw [zai (ne_of ec e (fun z=>nomatch z))]
    exact ec
end
section
variable {X:Cx} {pins:List (Addr×Obj)} {σ:St} {H:Hp} {s:Shared} {a:Addr} {kvs:List (Key×V)} {k:Key} {u:Value} {A:Around} {E:Value->Shared->Prop}
end
def NoSl (i:Expr):Prop:=∀ ov iv,subscripted i false ov iv=operate [ov,iv] (getItem ov iv)
theorem zwm {prog:Program} {w:World} {A:Around} {E:Value->Shared->Prop} {s:Shared} {env:Env} {value slice:Expr} {pos:Pos} {T id:String} {Q:Value->Shared->Prop}
    (hl:typeLookup (.type T) "__getitem__" = pure (some (.builtin id))) (hs:NoSl slice)
    (h:wpAny (model prog w) A (eval value env) (fun o s₁=>wpAny (model prog w) A (eval slice env) (fun i s₂=>s₂.TypeIs o T/\wpAny (model prog w) A (getItem o i) Q E s₂) E s₁) E s) :
    wpAny (model prog w) A (eval (.Subscript value slice pos) env) Q E s:=by
  refine Subscript_ (wpAny_mono h (fun o s₁ h₁=>wpAny_mono h₁ (fun i s₂ h₂=>?_) fun _ _ x=>x) fun _ _ x=>x)
  obtain ⟨hT,h₂⟩:=h₂
  unfold subscriptTail
  refine wpAny_bind ?_
  rw [getitemInPython_of_ne hT.not_modules]
  refine wpAny_bind (wpAny_specialOf hT hl ?_)
  have fin:wpAny (model prog w) A (subscripted slice false o i) (fun r s₃=>wpAny (model prog w) A (letTemporaryGo value o r >>= fun _=>pure r) Q E s₃) E s₂:=by
    rw [hs o i]
    exact wpAny_operating (wpAny_mono h₂ (fun r s₃ h₃=>wpAny_bind (wpAny_letTemporaryGo (wpAny_pure h₃))) fun _ _ x=>x)
  first
    | exact wpAny_pure (wpAny_bind fin)
    | exact wpAny_bind (wpAny_pure (wpAny_bind fin))
    | exact wpAny_bind fin
theorem zoh {X:Cx} {pins:List (Addr×Obj)} {σ:St} {H:Hp} {s:Shared} {a:Addr} {y:V} {o:Option V} (I:Inv X pins σ H s) (g:DGet H a y o):s.TypeIs (.ref a) "dict" := by
 rcases g with ⟨kvs,k,e,_,_⟩ | ⟨kvs,k,b,e,_,_,_⟩
 ·obtain ⟨_,_,vs,_,dd⟩:=dk_rd I.hok e
  exact dd.typeIs
 ·obtain ⟨_,_,xs,_,dd⟩:=dt_rd I.hok e
  exact dd.typeIs
def tDGet (td ty:TE):TE:=fun σ H Q=>td σ H fun x H1=>ty σ H1 fun y H2=>∃ a v,x = .ref a/\DGet H2 a y (some v)/\Q v H2
def tDIn (ty td:TE):TE:=fun σ H Q=>ty σ H fun y H1=>td σ H1 fun x H2=>∃ a o,x = .ref a/\DGet H2 a y o/\Q (.bl o.isSome) H2
def tDNotIn (ty td:TE):TE:=fun σ H Q=>ty σ H fun y H1=>td σ H1 fun x H2=>∃ a o,x = .ref a/\DGet H2 a y o/\Q (.bl (!o.isSome)) H2
def sDPut (td ty tv:TE):TS:=fun D σ H=>tv σ H fun v H1=>td σ H1 fun x H2=>ty σ H2 fun y H3=>∃ a H4,x = .ref a/\DPut H3 a y v H4/\D.nx σ H4
section
variable {X:Cx} {o i e value:Expr} {pos pos' tpos:Pos} {td ty tv:TE}
theorem zdd (hu:X.A.units+1<cLine) (ho:PE X o td) (hi:PE X i ty) (hs:NoSl i):PE X (.Subscript o i pos) (tDGet td ty):=by
 intro pins s σ H Q I h
 refine zwm PySem.F.slot_dict_getitem.lookup hs (thn (ho pins s σ H _ I h) fun u s1 ⟨x,H1,I1,rx,q1⟩=>thn (hi pins s1 σ H1 _ I1 q1) fun iv s2 ⟨y,H2,I2,ry,a,v,ex,g,q2⟩=>?_)
 subst ex
 obtain rfl:u=Value.ref a:=rx
 exact ⟨zoh I2 g,zse hu I2 g ry fun w' s3 I3 rw'=>⟨v,H2,I3,rw',q2⟩⟩
theorem zpl (hu:X.A.units+1<cLine) (hi:PE X i ty) (ho:PE X o td):PC X .In i o (tDIn ty td):=by
 intro pins s σ H Q I h
 refine thn (hi pins s σ H _ I h) fun iv s1 ⟨y,H1,I1,ry,q1⟩=>thn (ho pins s1 σ H1 _ I1 q1) fun u s2 ⟨x,H2,I2,rx,a,ov,ex,g,q2⟩=>?_
 subst ex
 obtain rfl:u=Value.ref a:=rx
 exact d_in hu I2 g ry fun s3 I3=>⟨.bl ov.isSome,H2,I3,rfl,q2⟩
theorem zjr (hu:X.A.units+1<cLine) (hi:PE X i ty) (ho:PE X o td):PC X .NotIn i o (tDNotIn ty td):=by
 intro pins s σ H Q I h
 refine thn (hi pins s σ H _ I h) fun iv s1 ⟨y,H1,I1,ry,q1⟩=>thn (ho pins s1 σ H1 _ I1 q1) fun u s2 ⟨x,H2,I2,rx,a,ov,ex,g,q2⟩=>?_
 subst ex
 obtain rfl:u=Value.ref a:=rx
 exact zwl hu I2 g ry fun s3 I3=>⟨.bl (!ov.isSome),H2,I3,rfl,q2⟩
theorem zez (hu:X.A.units+1<cLine) (ho:PE X o td) (hi:PE X i ty) (hv:PE X value tv) (hs:swapsWith value (some (.Subscript o i pos')) pos.line X.env=pure false) :
    PS X (.Assign [.Subscript o i pos'] value pos) (sDPut td ty tv):=by
  intro pins s σ H D I h
  refine wpAny_Assign_Subscript (thn (hv pins s σ H _ I h) fun r s1 ⟨v,H1,I1,rv,q1⟩=>thn (ho pins s1 σ H1 _ I1 q1) fun u s2 ⟨x,H2,I2,rx,q2⟩=>thn (hi pins s2 σ H2 _ I2 q2) fun iv s3 ⟨y,H3,I3,ry,a,H4,ex,g,q3⟩=>?_) hs
  subst ex
  obtain rfl:u=Value.ref a:=rx
  exact zsf hu I3 g ry rv fun s4 I4=>⟨σ,H4,I4,q3⟩
end
theorem zpm {P:Program} {w:World} {H:Hp} (h:Heap) (hb:sysModules<h.objs.size):ObjOk P w H (h.push { cls:=.type "dict", data:=.dict #[] }) h.objs.size (.dK []) :=
 ⟨Nat.zero_le _,beq_eq_false_iff_ne.mpr (Ne.symm (Nat.ne_of_lt hb)),[],.nil,Heap.DictOf.new h⟩
def tDNewK:TE:=fun _ H Q=>∀ p,H p=none->Q (.ref p) (upd H p (.dK []))
section
variable {X:Cx} {pos:Pos}
theorem zhe:PE X (.Dict [] [] pos) tDNewK:=fun pins s σ H Q I h =>
 wpAny_Dict_empty ⟨.ref s.heap.objs.size,_,I.laid (a:=s.heap.objs.size) (o:=.dK []) (t':=s.toks) (fun _ _ q=>Heap.get?_push_of_some _ q) (Nat.le_refl _) (zpm s.heap I.big),rfl,h _ (I.hok.fresh (Nat.le_refl _))⟩
end
def zng:List (TE×TE)->St->Hp->(List (V×V)->Hp->Prop)->Prop
 | [],_,H,Q=>Q [] H
 | (tk,tv) :: r,σ,H,Q=>tk σ H fun x H1=>tv σ H1 fun y H2=>zng r σ H2 fun ps H3=>Q ((x,y) :: ps) H3
abbrev VV:List (V×V)->List (Value×Value)->Prop:=Paired fun p q=>RelV p.1 q.1/\RelV p.2 q.2
def PPs (X:Cx) (pos:Pos) (keys:List (Option Expr)) (values:List Expr) (trs:List (TE×TE)):Prop :=
 ∀ (pins:List (Addr×Obj)) (s:Shared) (σ:St) (H:Hp) (Q:List (V×V)->Hp->Prop),Inv X pins σ H s->zng trs σ H Q ->
  wpAny (model X.prog X.w) X.A (evalPairs (pairTrees keys values X.env pos)) (fun vs s'=>∃ ps H',Inv X pins σ H' s'/\VV ps vs/\Q ps H') X.xe s
theorem zwn {X:Cx} {pos:Pos}:PPs X pos [] [] []:=fun pins s σ H Q I h=>pairTrees_nil_walk ⟨[],H,I,.nil,h⟩
theorem zua {X:Cx} {pos:Pos} {k v:Expr} {ks:List (Option Expr)} {vs:List Expr} {tk tv:TE} {trs:List (TE×TE)} (hk:PE X k tk) (hv:PE X v tv) (hr:PPs X pos ks vs trs) :
    PPs X pos (some k :: ks) (v :: vs) ((tk,tv) :: trs):=fun pins s σ H Q I h =>
  pairTrees_cons_walk (thn (hk pins s σ H _ I h) fun u s1 ⟨x,H1,I1,rx,q1⟩=>thn (hv pins s1 σ H1 _ I1 q1) fun w2 s2 ⟨y,H2,I2,ry,q2⟩ =>
    thn (hr pins s2 σ H2 _ I2 q2) fun ws s3 ⟨ps,H3,I3,rel,q3⟩=>⟨(x,y) :: ps,H3,I3,.cons ⟨rx,ry⟩ rel,q3⟩)
def zgm (kvs more:List (Key×V)):List (Key×V):=more.foldl (fun acc kv=>putK acc kv.1 kv.2) kvs
theorem KV.merge:∀ {more:List (Key×V)} {rs:List (Key×Value)} {kvs:List (Key×V)} {vs:List (Key×Value)},KV more rs->KV kvs vs->KV (zgm kvs more) (merged vs rs):=by
 intro more rs kvs vs r
 unfold KV at r
 induction r generalizing kvs vs with
 | nil=>intro q; exact q
 | @cons p q ps qs h t ih =>
  intro r0
  have e:KV (putK kvs p.1 p.2) (stored vs q.1 q.2):=by
   have:=r0.put p.1 h.2
   rw [<- h.1]; exact this
  exact ih e
theorem zhf:∀ (more kvs:List (Key×V)),(zgm kvs more).length<=kvs.length+more.length
 | [],kvs=>by show kvs.length<=kvs.length+0; omega
 | p :: r,kvs=>by
  have h1:=zhf r (putK kvs p.1 p.2)
  have h2:=zed kvs p.1 p.2
  show (zgm (putK kvs p.1 p.2) r).length<=_
  rw [List.length_cons]; omega
theorem zli {P:Program} {w:World}:∀ {kvs:List (Key×V)} {ws:List (Value×Value)},VV (kvs.map fun kv=>(kV kv.1,kv.2)) ws->∃ rs,Carries (zca P w) ws rs/\KV kvs rs
 | [],_,r=>by rw [List.map_nil] at r; cases r; exact ⟨[],True.intro,.nil⟩
 | p :: kvs,_,r=>by
  rw [List.map_cons] at r
  cases r with
  | @cons a b as bs h t =>
   obtain ⟨rs,c,q⟩:=zli (P:=P) (w:=w) t
   obtain ⟨b1,b2⟩:=b
   exact ⟨(p.1,b2) :: rs,⟨kV_is h.1,rfl,c⟩,.cons ⟨rfl,h.2⟩ q⟩
def tDisp (trs:List (TE×TE)):TE:=fun σ H Q=>∀ p,H p=none->zng trs σ (upd H p (.dK [])) fun ps H2=>H2 p=some (.dK [])/\∃ kvs:List (Key×V),ps=kvs.map (fun kv=>(kV kv.1,kv.2))/\kvs.length<=15/\Q (.ref p) (upd H2 p (.dK (zgm [] kvs)))
theorem zwo {X:Cx} {pos:Pos} {keys:List (Option Expr)} {values:List Expr} {trs:List (TE×TE)} (h:PPs X pos keys values trs) (hall:keys.all (·.isSome)=true) (hl:keys.length=values.length) (h0:keys≠[])
    (h15:keys.length<=15):PE X (.Dict keys values pos) (tDisp trs):=by
  intro pins s σ H Q I q
  have hn:=I.hok.fresh (Nat.le_refl s.heap.objs.size)
  have I1:=I.laid (a:=s.heap.objs.size) (o:=.dK []) (h':=s.heap.push { cls:=.type "dict", data:=.dict #[] }) (t':=s.toks) (fun _ _ q=>Heap.get?_push_of_some _ q) (Nat.le_refl _) (zpm s.heap I.big)
  refine wpAny_Dict_walk (knd:=zca X.prog X.w) hall hl h0 h15 (thn (h pins _ σ _ _ I1 (q _ hn)) fun ws s2 ⟨ps,H2,I2,rel,e,kvs,ep,lk,q2⟩=>?_)
  subst ep
  obtain ⟨rs,c,rk⟩:=zli (P:=X.prog) (w:=X.w) rel
  obtain ⟨z,hd,vs0,r0,dd⟩:=dk_of I2.hok e
  cases r0
  refine ⟨rs,c,dd,fun h' dd' hs=>⟨.ref s.heap.objs.size,_,?_,rfl,q2⟩⟩
  have hz:(zgm [] kvs).length<=sizeLine:=by
    have h1:=zhf kvs []
    rw [List.length_nil] at h1
    rw [sizeLine_eq]; omega
  have he:∃ q,h'.get? s.heap.objs.size=some q:=let ⟨q,_,_,hq,_⟩:=dd'; ⟨q,hq⟩
  exact zog I2 (by rw [e]; exact True.intro) hs he (zvh hz hd (rk.merge .nil) dd')
def IsD (H:Hp) (a:Addr):Prop:=(∃ kvs,Rd H a (.dK kvs))\/∃ kvs,Rd H a (.dT kvs)
theorem zyx {X:Cx} {pins:List (Addr×Obj)} {σ:St} {H:Hp} {s:Shared} {a:Addr} (I:Inv X pins σ H s) (d:IsD H a) :
    s.TypeIs (.ref a) "dict" /\ (∀ b,Value.ref a = .ref b->∃ ob,s.heap.get? b=some ob/\ob.dict=none)/\(a == sysModules)=false:=by
  rcases d with ⟨kvs,e⟩ | ⟨kvs,e⟩
  · obtain ⟨_,hd,vs,_,dd⟩:=dk_rd I.hok e
    refine ⟨dd.typeIs,fun b q=>?_,hd⟩
    cases q
    obtain ⟨ob,_,_,h1,h2,_⟩:=dd
    exact ⟨ob,h1,h2.2.1⟩
  · obtain ⟨_,hd,xs,_,dd⟩:=dt_rd I.hok e
    refine ⟨dd.typeIs,fun b q=>?_,hd⟩
    cases q
    obtain ⟨ob,_,_,h1,h2,_⟩:=dd
    exact ⟨ob,h1,h2.2.1⟩
section
variable {X:Cx} {pins:List (Addr×Obj)} {σ:St} {H:Hp} {s:Shared} {a:Addr} {y d:V} {u r:Value} {o:Option V} {A:Around} {E:Value->Shared->Prop}
end
def tDGet1 (td ty:TE):TE:=fun σ H Q=>td σ H fun x H1=>∃ a,x = .ref a/\IsD H1 a/\ty σ H1 fun y H2=>∃ o,DGet H2 a y o/\Q (o.getD .non) H2
def tDGet2 (td ty tx:TE):TE:=fun σ H Q=>td σ H fun x H1=>∃ a,x = .ref a/\IsD H1 a/\ty σ H1 fun y H2=>tx σ H2 fun z H3=>∃ o,DGet H3 a y o/\Q (o.getD z) H3
def tDPop1 (td ty:TE):TE:=fun σ H Q=>td σ H fun x H1=>∃ a,x = .ref a/\IsD H1 a/\ty σ H1 fun y H2=>∃ kvs k v,H2 a=some (.dK kvs)/\y=kV k/\valV kvs k=some v/\Q v (upd H2 a (.dK (dropK kvs k)))
section
variable {X:Cx} {o e f:Expr} {apos cpos:Pos} {td ty tx:TE}
end
section
variable {X:Cx} {pins:List (Addr×Obj)} {σ:St} {H:Hp} {s:Shared} {a:Addr} {kvs:List (Key×V)} {A:Around} {E:Value->Shared->Prop}
end
section
variable {X:Cx} {pins:List (Addr×Obj)} {σ:St} {H:Hp} {s:Shared} {a:Addr} {y:V} {u:Value} {A:Around} {E:Value->Shared->Prop}
end
section
variable {X:Cx}
end
section
variable {κ:Type} [DecidableEq κ]
end
def tTru (K:PySem.W.Frag) (ta:TE):TT:=fun σ H Q=>ta σ H fun x H1=>∃ k,TruV K x H1 k/\Q k H1
theorem zjs {X:Cx} (K:PySem.W.Frag) (h:X.K=K) {a:Expr} {ta:TE} (ha:PE X a ta) (he:∀ whole,isTrue a X.env whole=(do let v <- whole; standAt a.pos; holding [v] (truthy v)):=by intro _; rfl):PT X a (tTru K ta):=h ▸ ztp ha he
theorem truL {K:PySem.W.Frag} {H:Hp} {p:Addr} {xs:List V} (h:SqL K H p xs):TruV K (.ref p) H (!xs.isEmpty):=.inl ⟨xs,h,rfl⟩
end L2
namespace Sw
abbrev T3:=Rat×Rat×Int
def isHd (m:Rat) (u:T3):Bool:=!decide (m<u.1) && decide (m<u.2.1)
def hds (us:List T3) (m:Rat):List T3:=us.filter (isHd m)
def Grd (D:Int) (q:Rat):Prop:=∃ n:Int,q=(n:Rat) / (D:Rat)
theorem Grd.add {D:Int} {a b:Rat} (h:Grd D a) (k:Grd D b):Grd D (a+b):=by
 obtain ⟨n,rfl⟩:=h
 obtain ⟨m,rfl⟩:=k
 exact ⟨n+m,by rw [Rat.intCast_add]; grind⟩
theorem Grd.more {D:Int} {a:Rat} (hD:D≠0) (h:Grd D a) {k:Int} (hk:k≠0):Grd (D*k) a:=by
 obtain ⟨n,rfl⟩:=h
 have h1:=q_cast_ne hD
 have h2:=q_cast_ne hk
 exact ⟨n*k,by rw [Rat.intCast_mul,Rat.intCast_mul]; grind⟩
theorem Grd.sz {D M:Int} {a b:Nat} {q:Rat} (h:Grd D q) (hD:0<D) (zD:Sz a D) (zM:Sz b M) (h1:-(M:Rat)<=q) (h2:q<=(M:Rat)) (hb:1<=b):SzQ (a+b) q:=by
 obtain ⟨n,rfl⟩:=h
 have dp:=q_cast_pos hD
 have dn:=q_cast_ne (show D≠0 by omega)
 refine .of (by omega) rfl ((zD.mul zM).le ?_) (zD.mono (by omega))
 have e:(n:Rat) / (D:Rat)*(D:Rat)=(n:Rat):=by grind
 have u:(n:Rat)<=((M*D:Int):Rat):=by
  rw [<- e,Rat.intCast_mul]
  exact Rat.mul_le_mul_of_nonneg_right h2 (by grind)
 have l:((-(M*D):Int):Rat)<=(n:Rat):=by
  rw [<- e,Rat.intCast_neg,Rat.intCast_mul,show -((M:Rat)*(D:Rat)) = -(M:Rat)*(D:Rat) by grind]
  exact Rat.mul_le_mul_of_nonneg_right h1 (by grind)
 have u':=Rat.intCast_le_intCast.mp u
 have l':=Rat.intCast_le_intCast.mp l
 rw [Int.mul_comm D M]
 omega
end Sw
namespace L2
open PySem PySem.Spec PyProof.Rows
theorem zoi {c:TT} {tb:TS} {D:Ends} {σ:St} {H:Hp} (W:Nat->St->Hp->Prop) {m0:Nat} (h0:W m0 σ H)
    (hs:∀ m σ H,W m σ H->∃ b:Bool,(∀ Q:Bool->Hp->Prop,Q b H->c σ H Q)/\(b=true->tb { D with nx:=fun σ' H'=>∃ m',m' < m/\W m' σ' H',ct:=fun σ' H'=>∃ m',m' < m/\W m' σ' H',bk:=D.nx } σ H)/\(b=false->D.nx σ H)):zqy c tb D σ H:=by
  refine ⟨W,⟨_,h0⟩,fun m σ H p=>?_⟩
  obtain ⟨b,hc,h1,h2⟩:=hs m σ H p
  refine hc _ ?_
  cases b with
  | true=>exact ⟨_,fun σ' H' z=>z,h1 rfl⟩
  | false=>exact h2 rfl
theorem zfa {α β:Type} {F:α->β->Prop} {a:α} {b:β} (h:F a b):∀ {l₁:List α} {l₂:List β},Paired F l₁ l₂->Paired F (l₁++[a]) (l₂++[b])
 | _,_,Paired.nil=>.cons h .nil
 | _,_,Paired.cons x y=>.cons x (zfa h y)
theorem zic {α β:Type} {F:α->β->Prop}:∀ {l₁:List α} {l₂:List β} {i:Nat} {a:α},Paired F l₁ l₂->l₁[i]? = some a->∃ b,l₂[i]? = some b/\F a b
 | _,_,_,_,Paired.nil,e=>by simp at e
 | _,_,0,_,Paired.cons x _,e=>by simp at e; subst e; exact ⟨_,rfl,x⟩
 | _,_,i+1,_,Paired.cons _ y,e=>by
  obtain ⟨b,h1,h2⟩:=zic (i:=i) y (by simpa using e)
  exact ⟨b,by simpa using h1,h2⟩
theorem ziu {α:Type} {l:List α} {i:Nat} {x:α} (h:l[i]? = some x):l.take (i+1)=l.take i++[x]:=by
 rw [List.take_add_one,h]; rfl
end L2
namespace Sw
open L2
end Sw
namespace L2
open PySem PySem.Spec PyProof.Rows
def Ite1 (K:PySem.W.Frag) (a:Addr):It :=
  ⟨fun i H=>∃ xs x,SqL K H a xs/\xs[i]? = some x,
   fun i H y H'=>∃ p x,y = .ref p/\H p=none/\(∀ xs,SqL K H a xs->xs[i]? = some x)/\H'=upd H p (.tup [.int ((i+1:Nat):Int),x]),
   fun i H=>∃ xs,SqL K H a xs/\xs.length=i⟩
section
variable {X:Cx}
def iEnum1 (K:PySem.W.Frag) (ta:TA):TI:=fun σ H R=>ta σ H fun vs H1=>∃ a,vs = [.ref a]/\(∃ xs,SqL K H1 a xs)/\R (Ite1 K a) H1
end
section
variable {X:Cx}
def Itv (K:PySem.W.Frag) (a:Addr) (xs:List V):It :=
 ⟨fun i H=>SqL K H a xs/\i<xs.length,fun i H x H'=>H'=H/\xs.reverse[i]? = some x,fun i H=>SqL K H a xs/\xs.length=i⟩
def iRev (K:PySem.W.Frag) (ta:TA):TI:=fun σ H R=>ta σ H fun vs H1=>∃ a xs,vs = [.ref a]/\SqL K H1 a xs/\R (Itv K a xs) H1
end
end L2
namespace L2
end L2
namespace L2
open PySem PySem.Spec PyProof.Rows
def DSd (H:Hp) (a:Addr) (y d:V) (v:V) (H':Hp):Prop:=∃ kvs k,H a=some (.dK kvs)/\y=kV k/\kvs.length<sizeLine/\((valV kvs k=some v/\H'=H)\/(valV kvs k=none/\v=d/\H'=upd H a (.dK (putK kvs k d))))
section
variable {X:Cx} {pins:List (Addr×Obj)} {σ:St} {H H':Hp} {s:Shared} {a:Addr} {y d v:V} {u r:Value} {A:Around} {E:Value->Shared->Prop}
end
def tDSd (td ty tx:TE):TE:=fun σ H Q=>td σ H fun x H1=>∃ a,x = .ref a/\IsD H1 a/\ty σ H1 fun y H2=>tx σ H2 fun z H3=>∃ v H4,DSd H3 a y z v H4/\Q v H4
section
variable {X:Cx} {o e f:Expr} {td ty tx:TE} {apos cpos:Pos}
end
end L2
namespace Sw
open L2
def ov (low high:Rat) (u:T3):Rat:=if u.2.1<=low then 0 else if high<=u.1 then 0 else (if u.2.1<=high then u.2.1 else high)-(if low<=u.1 then u.1 else low)
end Sw
namespace Sw
open L2
end Sw
namespace Sw
open L2
end Sw
namespace L2
open PySem PySem.Spec PyProof.Rows
section
variable {X:Cx}
end
abbrev D2:=Int×Int
def d2 (g:D2):List V:=[.int g.1,.int g.2]
abbrev Duos (H:Hp):List Addr->List D2->Prop:=Paired fun p g=>H p=some (.tup (d2 g))
theorem Duos.len {H:Hp} {ps:List Addr} {gs:List D2} (h:Duos H ps gs):ps.length=gs.length:=Paired.length h
theorem Duos.keep {H H':Hp} {ps:List Addr} {gs:List D2} (h:Duos H ps gs) (e:∀ p xs,H p=some (.tup xs)->H' p=some (.tup xs)):Duos H' ps gs:=Paired.mapP h fun _ _ q=>e _ _ q
theorem Duos.get {H:Hp}:∀ {ps:List Addr} {gs:List D2} {i:Nat} {p:Addr},Duos H ps gs->ps[i]? = some p->∃ q,gs[i]? = some q/\H p=some (.tup (d2 q))
 | _,_,_,_,Paired.nil,e=>by simp at e
 | _,_,0,_,Paired.cons a _,e=>by simp at e; subst e; exact ⟨_,rfl,a⟩
 | _,_,i+1,_,Paired.cons _ b,e=>by
  obtain ⟨q,h1,h2⟩:=Duos.get (i:=i) b (by simpa using e)
  exact ⟨q,by simpa using h1,h2⟩
structure Gos (H:Hp) (l:Addr) (ps:List Addr) (gs:List D2):Prop where
 hl:H l=some (.lst (ps.map V.ref))
 r:Duos H ps gs
end L2
namespace Sw
open L2
end Sw
namespace L2
open PySem PySem.Spec PyProof.Rows
section
variable {X:Cx}
theorem zwp {i0:Nat} {y:Str} {py spos:Pos} {elt target iter:Expr} {ifs:List Expr} {scope:Scope} {pos:Pos} {cl:List (Str×Addr)} {ts:List Str} {fr:List (Str×Nat)} {wi:TI} {g:TG} {tc:TT} {te:TE} (hcalm:X.calm=true)
    (hclos:closureFor scope X.env=pure cl) (hcell:∀ y∈scope.names,y.2≠.cell) (hkind:scope.kind = .function) (hnames:∀ y∈scope.names,y.2 = .local->scope.names.lookup y.1=some .local)
    (hcl:∀ x c,cl.lookup x=some c->X.env.cells.lookup x=some c)
    (hhas:∀ x,((relabel scope X.env).names.lookup x=some .cell\/(relabel scope X.env).names.lookup x=some .free)->∃ c,cl.lookup x=some c) (hfr:FrOk X (relabel scope X.env) fr)
    (hi:PI X target iter wi) (hg:∀ fp s H,PG (zdc X scope cl (ts++fr.map (·.1)) fp s H) target g) (hc:∀ fp s H,PIfs (zdc X scope cl (ts++fr.map (·.1)) fp s H) ifs tc)
    (he:∀ fp s H,PE (zdc X scope cl (ts++fr.map (·.1)) fp s H) elt te) (hsw:swapsWith (.ListComp elt [⟨target,iter,ifs,0⟩] scope pos) (some (.Name y py)) spos.line X.env=pure true) (hN:X.N.Nodup) (hiy:X.N[i0]? = some y) (hy:Loc X.env.scope y)
    (hs:∀ x,foldedSetIterable iter X.env x=pure x:=by intro _; rfl) (hf:X.fn y=true\/X.env.scope.names.lookup y=some .local:=by first | exact .inl rfl | exact .inr rfl | assumption) :
    PS X (.Assign [.Name y py] (.ListComp elt [⟨target,iter,ifs,0⟩] scope pos) spos) (tAsg (tComp ts.length fr wi g tc te) (gName i0)):=by
  intro pins s σ H D I h
  have h:tComp ts.length fr wi g tc te σ H (fun x H1=>D.nx (σ.set i0 (some x)) H1):=h
  rw [exec_Assign_Name_used _ _ _ _ hsw]
  refine wpAny_bind (wpAny_standAt (wpAny_bind ?_))
  show wpAny _ _ (do let _ <- comprehension (.ListComp elt [⟨target,iter,ifs,0⟩] scope pos) scope X.env _ (newList []) false (eval iter X.env) (some (assign (.Name y py) X.env))) _ _ s
  refine wpAny_bind (wpAny_mono (wpAny_comprehension_free (use:=some (assign (.Name y py) X.env)) (Q:=fun _ s'=>SP X pins D .next s') rfl hs hclos hkind hnames (thn (hi pins s σ H _ I h) fun xv s1 h1=>thn h1 fun itv s2 h2=>?_)) (fun _ s' hq=>wpAny_pure (wpAny_pure hq)) fun _ _ e=>e)
  obtain ⟨it,fp,tn,J,H2,rfl,I2,T,st2,f2,hR⟩:=h2
  have D0:H2 s2.heap.objs.size=none:=I2.hok.fresh (Nat.le_refl _)
  obtain ⟨W,⟨m0,w0⟩,turn⟩:=hR s2.heap.objs.size D0
  refine wpAny_newObj_type (wpAny_newFunctionEnv hcell (by intro y hy; simp at hy) (fun h₁ hns₁ hsb₁=>?_) hkind)
  dsimp only at hns₁ hsb₁ ⊢
  have I3:Inv X pins σ (upd H2 s2.heap.objs.size (.lst [])) { s2 with heap:=s2.heap.push { cls:=.type "list", dict:=none,data:=.seq ([]:List Value).toArray } } :=
    I2.laid (t':=s2.toks) (fun _ _ q=>Heap.get?_push_of_some _ q) (Nat.le_refl _) ⟨Nat.zero_le _,[],0,.nil,Heap.get?_push_size _ rfl⟩
  have kp3:∀ b o,s2.heap.get? b=some o->(s2.heap.push { cls:=.type "list", dict:=none,data:=.seq ([]:List Value).toArray }).get? b=some o:=fun b o q=>Heap.get?_push_of_some _ q
  have sz3:(s2.heap.push { cls:=.type "list", dict:=none,data:=.seq ([]:List Value).toArray }).objs.size=s2.heap.objs.size+1:=Heap.size_push ..
  generalize s2.heap.push { cls:=.type "list", dict:=none,data:=.seq ([]:List Value).toArray } = hp3 at hns₁ hsb₁ I3 kp3 sz3 ⊢
  have kp:∀ b o,hp3.get? b=some o->h₁.get? b=some o:=fun b o e=>hsb₁.extBut b o (Nat.ne_of_lt (Heap.lt_size e)) (Heap.get?_push_of_some _ e)
  have flt:∀ b∈fp,b<s2.heap.objs.size:=fun b hb=>by
    obtain ⟨o,e,_⟩:=T.obj _ _ st2 b hb
    exact Heap.lt_size e
  have fr3:∀ b∈fp,(upd H2 s2.heap.objs.size (.lst [])) b=none:=fun b hb=>by rw [zai (Nat.ne_of_lt (flt b hb))]; exact (f2 b hb).1
  have f3:∀ b∈fp,FpOk X pins (upd H2 s2.heap.objs.size (.lst [])) b/\b<hp3.objs.size:=fun b hb=>⟨⟨fr3 b hb,(f2 b hb).2⟩,by rw [sz3]; exact Nat.lt_succ_of_lt (flt b hb)⟩
  have I4:=zpc (ts:=ts) (t':=s2.toks+([]:List (Str×Value)).length) I3 hkind hcl hhas hfr f3 hns₁ kp
  have st4:tn 0 h₁:=T.keep _ _ _ st2 fun b hb o e=>kp b o (kp3 b o e)
  have loop:codeAny (model X.prog X.w) X.A (.compLoop (.ListComp elt [⟨target,iter,ifs,0⟩] scope pos) 0 (.ref it) (.ref s2.heap.objs.size) (compEnvC scope cl hp3.objs.size X.env))
      (compPost (model X.prog X.w) X.A X.xe (some (assign (.Name y py) X.env)) (fun _ s'=>SP X pins D .next s') (.ref s2.heap.objs.size) hp3.objs.size) { s2 with heap:=h₁,toks:=s2.toks+([]:List (Str×Value)).length }:=by
    refine zey (fun n s'=>∃ i τ H',Inv (zdc X scope cl (ts++fr.map (·.1)) fp { s2 with heap:=hp3 } (upd H2 s2.heap.objs.size (.lst []))) [] τ H' s'/\tn i s'.heap/\(∀ b∈fp,H' b=none)/\W i n τ H') ?_ m0 ⟨0,_,_,I4,st4,fr3,w0⟩
    rintro n s5 ⟨i,τ,H5,I5,st5,fr5,w5⟩
    have stat:∀ {H':Hp},(∀ b∈fp,H' b=none)->∀ b∈fp,FpOk (zdc X scope cl (ts++fr.map (·.1)) fp { s2 with heap:=hp3 } (upd H2 s2.heap.objs.size (.lst []))) [] H' b :=
      fun hn b hb=>⟨hn b hb,(I5.ok.exf b hb).1,I5.ok.exfs b hb,.inl hb,(I5.ok.exf b hb).2,fun p hp=>absurd (show p∈([]:List (Addr×Obj)) from hp) (by simp)⟩
    rcases turn i n τ H5 w5 with ⟨stop,qn⟩ | ⟨go,Nn,hN,step⟩
    · refine thn (T.done (zdc X scope cl (ts++fr.map (·.1)) fp { s2 with heap:=hp3 } (upd H2 s2.heap.objs.size (.lst []))) rfl rfl rfl hcalm i [] s5 τ H5 _ I5 (stat fr5) st5 stop) fun r s6 ⟨hr,I6⟩=>?_
      subst hr
      have neC:∀ b o,hp3.get? b=some o->b≠hp3.objs.size:=fun b o e=>Nat.ne_of_lt (Heap.lt_size e)
      have I7:Inv X pins σ H5 s6:=by
        refine I3.call' (s':=s6) (ch:=fp) I6.os ⟨fun b o e n hb hx=>I6.base.keep b o e n hb hx,fun b o e n hb hx=>I6.base.slot b o e n hb hx,I6.base.free,fun b o e hx=>I6.base.there b o e hx,I6.base.tups,I6.base.frzs,I6.base.tbls⟩ I6.hok I6.bare (fun b hb=>?_)
        exact ⟨(f2 b hb).2.2.2.1,(f2 b hb).2.1,(f2 b hb).2.2.2.2.1,(f2 b hb).2.2.2.2.2⟩
      have lC:X.env.locals≠hp3.objs.size:=by
        obtain ⟨_,⟨o,_,_,ho,_⟩,_⟩:=I3.loc
        exact neC _ o ho
      have cC:∀ x c,X.env.cells.lookup x=some c->c≠hp3.objs.size:=fun x c e=>by
        obtain ⟨v,o,ho,_⟩:=I3.cell x c e
        exact neC _ o ho
      have fC:H5 hp3.objs.size=none:=I6.free
      obtain ⟨m,hn,_⟩:=I6.loc
      show wpAny _ _ (assign (.Name y py) X.env (.ref s2.heap.objs.size)) _ _ _
      refine wpAny_assign_Name (zmk I7 hN hiy hy (v:=.ref s2.heap.objs.size) rfl (fun s8 I8 hsb=>?_) hf)
      obtain ⟨al,hs8,hal⟩:=hsb
      have alC:hp3.objs.size≠al:=by
        rcases hal with z | z
        · rw [z]; exact Ne.symm lC
        · exact Ne.symm (cC _ _ z)
      have hs8:Heap.SameBut al s6.heap s8.heap:=hs8
      have hnC:s6.heap.Ns hp3.objs.size m:=hn
      refine ⟨m,hnC.sameBut hs8 alC,fun h' hs'=>⟨σ.set i0 (some (.ref s2.heap.objs.size)),H5,?_,qn⟩⟩
      have hs':Heap.SameBut hp3.objs.size s8.heap h':=hs'
      refine I8.call' (s':={ s8 with heap:=h' }) (ch:=[hp3.objs.size]) rfl ⟨fun b o e n hb hx=>?_,fun b o e n hb hx=>?_,fun b o e n hx=>n,fun b o e hx=>?_,fun _ _ q=>q,fun _ _ _ q=>q,fun b ps q=>⟨#[],by rw [q]; simp⟩⟩ (fun b ob e=>?_) I8.bare (fun b hb=>?_)
      · exact (hs'.2 b (fun z=>hx (by simp [z]))).trans e
      · exact ⟨o.slots,(hs'.2 b (fun z=>hx (by simp [z]))).trans e⟩
      · exact ⟨o,(hs'.2 b (fun z=>hx (by simp [z]))).trans e⟩
      · refine (I8.hok b ob e).stay (fun c v hc q=>(hs'.2 c ?_).trans q) (fun _ q=>q) fun _ _ q=>q
        intro z
        rcases hc with w | w
        · rw [<- w,z,fC] at e; cases e
        · rw [z,fC] at w; cases w
      · have z:b=hp3.objs.size:=by simpa using hb
        subst z
        refine ⟨.inr (Nat.le_trans (Nat.le_trans I2.sz (by rw [sz3]; exact Nat.le_succ _)) (Nat.le_refl _)),Ne.symm lC,cC,fun p hp e=>?_⟩
        obtain ⟨q1,_⟩:=I3.pin p hp
        exact neC _ _ q1 e
    · refine thn (T.item (zdc X scope cl (ts++fr.map (·.1)) fp { s2 with heap:=hp3 } (upd H2 s2.heap.objs.size (.lst []))) rfl rfl rfl hcalm i [] s5 τ H5 _ I5 (stat fr5) st5 go) fun r s6 ⟨u,hr,h6⟩=>?_
      subst hr
      refine thn h6 fun _ s7 ⟨x,H7,I7,r7,y7,st7,fr7⟩=>?_
      have I7':=I7.pinned (stat fr7) (T.obj _ _ st7)
      refine wpAny_mono (hg fp _ _ _ s7 τ H7 x u _ I7' r7 (step x H7 y7)) (fun _ s8 ⟨τ8,H8,I8,q8⟩=>?_) fun _ _ z=>False.elim z
      have again:∀ {τ9:St} {H9:Hp} {s9:Shared},Inv (zdc X scope cl (ts++fr.map (·.1)) fp { s2 with heap:=hp3 } (upd H2 s2.heap.objs.size (.lst []))) ([]++zld fp s7.heap) τ9 H9 s9->Nn τ9 H9 ->
          ∃ m,m<n/\∃ i τ H',Inv (zdc X scope cl (ts++fr.map (·.1)) fp { s2 with heap:=hp3 } (upd H2 s2.heap.objs.size (.lst []))) [] τ H' s9/\tn i s9.heap/\(∀ b∈fp,H' b=none)/\W i m τ H':=fun {τ9 H9 s9} I9 n9=>by
        obtain ⟨m',hm,w9⟩:=hN τ9 H9 n9
        refine ⟨m',hm,i+1,τ9,H9,I9.unpinned,T.keep _ _ _ st7 fun b hb o e=>(I9.pin (b,o) (List.mem_append_right _ (List.mem_append_right _ (zer hb e)))).1,fun b hb=>?_,w9⟩
        obtain ⟨o,e,d⟩:=T.obj _ _ st7 b hb
        exact (I9.pin (b,o) (List.mem_append_right _ (List.mem_append_right _ (zer hb e)))).2.1
      refine wpAny_mono (hc fp _ _ _ s8 τ8 H8 _ I8 q8) (fun ok s9 ⟨H9,I9,q9⟩=>?_) fun _ _ z=>False.elim z
      cases ok with
      | false=>exact again I9 q9
      | true =>
        refine wpAny_mono (he fp _ _ _ s9 τ8 H9 _ I9 q9) (fun y s10 ⟨v,H10,I10,rv,ys,hD,hl,qN⟩=>?_) fun _ _ z=>False.elim z
        refine wpAny_mono (zdo (X:=zdc X scope cl (ts++fr.map (·.1)) fp { s2 with heap:=hp3 } (upd H2 s2.heap.objs.size (.lst []))) _ s10 τ8 H10 (.ref s2.heap.objs.size) [v] (.ref s2.heap.objs.size) [y] (fun _ H=>Nn τ8 H) I10 rfl (.cons rv .nil) ⟨_,ys,v,rfl,rfl,hD,hl,qN⟩) (fun _ s11 ⟨_,H11,I11,_,q11⟩=>again I11 q11) fun _ _ z=>False.elim z
  exact codeAny_compStart_list loop (T.self X.A 0 _ _ _ st4 loop)
theorem zwq {i0:Nat} {y:Str} {py spos:Pos} {elt target iter:Expr} {ifs:List Expr} {scope:Scope} {pos:Pos} {cl:List (Str×Addr)} (ts:List Str) (fr:List (Str×Nat)) {wi:TI} {g:TG} {tc:TT} {te:TE} (hcalm:X.calm=true)
    (hclos:closureFor scope X.env=pure cl) (hcell:∀ y∈scope.names,y.2≠.cell) (hkind:scope.kind = .function) (hnames:∀ y∈scope.names,y.2 = .local->scope.names.lookup y.1=some .local)
    (hcl:ClOk X.env cl) (hhas:clAll (relabel scope X.env).names cl=true) (hfr:FrOk X (relabel scope X.env) fr)
    (hi:PI X target iter wi) (hg:∀ fp s H,PG (zdc X scope cl (ts++fr.map (·.1)) fp s H) target g) (hc:∀ fp s H,PIfs (zdc X scope cl (ts++fr.map (·.1)) fp s H) ifs tc)
    (he:∀ fp s H,PE (zdc X scope cl (ts++fr.map (·.1)) fp s H) elt te)
    (hsw:swapsWith (.ListComp elt [⟨target,iter,ifs,0⟩] scope pos) (some (.Name y py)) spos.line X.env=pure true) (hN:X.N.Nodup) (hiy:X.N[i0]? = some y) (hy:Loc X.env.scope y)
    (hs:∀ x,foldedSetIterable iter X.env x=pure x:=by intro _; rfl) (hf:X.fn y=true\/X.env.scope.names.lookup y=some .local:=by first | exact .inl rfl | exact .inr rfl | assumption) :
    PS X (.Assign [.Name y py] (.ListComp elt [⟨target,iter,ifs,0⟩] scope pos) spos) (tAsg (tComp ts.length fr wi g tc te) (gName i0)) :=
  zwp hcalm hclos hcell hkind hnames hcl.get (fun x q=>zmz hhas x q) hfr hi hg hc he hsw hN hiy hy hs hf
end
theorem kV_of {P:Program} {w:World} {k:Key} {u:Value} (h:(zca P w).is k u=true):RelV (kV k) u:=by
 rcases zcv h with ⟨i,t,rfl,rfl⟩ | ⟨x,t,rfl,rfl⟩
 ·exact ⟨t,rfl⟩
 ·exact ⟨t,rfl⟩
theorem znh {P:Program} {w:World}:∀ {kvs:List (Key×V)} {vs:List (Key×Value)} {us:List Value},KV kvs vs->us.length=vs.length->(∀ (j:Nat) (v:Value),us[j]? = some v->∃ k x,vs[j]? = some (k,x)/\(zca P w).is k v=true)->Vals (kvs.map fun kv=>kV kv.1) us
 | _,_,[],Paired.nil,_,_=>.nil
 | _,_,_ :: _,Paired.nil,e,_=>by cases e
 | _,_,[],Paired.cons _ _,e,_=>by cases e
 | _,_,u :: us,Paired.cons (a:=p) (b:=q) h t,e,hj=>by
  obtain ⟨k,x,h1,h2⟩:=hj 0 u rfl
  have h1:q=(k,x):=by simpa using h1
  subst h1
  have e1:p.1=k:=h.1
  refine .cons ?_ (znh t (by simpa using e) fun j v hv=>hj (j+1) v (by simpa using hv))
  show RelV (kV p.1) u
  rw [e1]
  exact kV_of h2
def rLstD:List V->Hp->VK->Prop:=fun xs H Q=>∃ a kvs,xs = [.ref a]/\H a=some (.dK kvs)/\∀ l,H l=none->Q (.ref l) (upd H l (.lst (kvs.map fun kv=>kV kv.1)))
section
variable {X:Cx}
theorem zql (hc:X.calm=true):CallR X (.type "list") rLstD:=by
 intro pins s σ H xs us Q I r h
 obtain ⟨a,kvs,rfl,ha,q⟩:=h
 obtain ⟨u,rfl,ru⟩:=r.one
 cases ru
 obtain ⟨z,hd,vs,rel,o,es,ep,d1⟩:=dk_of I.hok ha
 refine PySem.W.kdl_call (PySem.W.kdl_dict (knd:=zca X.prog X.w) (kvs:=vs) (ep:=ep) hd) (I.ok.hd hc) ⟨o,es,d1⟩ (by rw [<- rel.length]; exact z) fun h' tk acc c hk hD it=>?_
 have hv:Vals (kvs.map fun kv=>kV kv.1) acc.toList:=znh rel (by rw [Array.length_toList]; exact it.1) fun j v e=>it.2 j v (by rw [<- Array.getElem?_toList]; exact e)
 have new:ObjOk X.prog X.w (upd H s.heap.objs.size (.lst (kvs.map fun kv=>kV kv.1))) h' s.heap.objs.size (.lst (kvs.map fun kv=>kV kv.1)):=⟨by rw [List.length_map]; exact z,acc.toList,c,hv,by rw [Array.toArray_toList]; exact hD⟩
 exact ⟨.ref s.heap.objs.size,_,I.laid hk (Nat.le_refl _) new,rfl,q _ I.fresh⟩
end
section
variable {X:Cx} {pins:List (Addr×Obj)} {σ:St} {H:Hp} {s:Shared} {a:Addr} {kvs:List (Key×V)} {o:Obj}
theorem Inv.frozen (I:Inv X pins σ H s) (h:H a=some (.dK kvs)) (ho:s.heap.get? a=some o):Inv X pins σ (upd H a (.frz o (.dK kvs))) s:=by
 have ne:∀ b,H b=none->b≠a:=fun b n z=>by rw [z,h] at n; cases n
 have nt:∀ b u,H b=some u->(∀ k,u≠.dK k)->b≠a:=fun b u e n z=>by rw [z,h] at e; cases e; exact n _ rfl
 have up:∀ b u,H b=some u->(∀ k,u≠.dK k)->upd H a (.frz o (.dK kvs)) b=some u:=fun b u e n=>by rw [zai (nt b u e n)]; exact e
 have hok:HOk X.prog X.w (upd H a (.frz o (.dK kvs))) s.heap:=fun b ob e=>by
  by_cases hb:b=a
  ·subst hb
   rw [zac] at e
   cases e
   exact ⟨ho,(I.hok b _ h).stay (fun _ _ _ q=>q) (fun c q=>up c _ q (by intro k z; cases z)) fun c xs q=>up c _ q (by intro k z; cases z)⟩
  ·rw [zai hb] at e
   exact (I.hok b _ e).stay (fun _ _ _ q=>q) (fun c q=>up c _ q (by intro k z; cases z)) fun c xs q=>up c _ q (by intro k z; cases z)
 exact I.step (g':=s.gens) (d':=s.drawn) (t':=s.toks) (ch:=[]) (fun _ z=>nomatch z) (fun b o' _ _ _ e _=>e) (fun b o' _ _ _ e _=>⟨o'.slots,e⟩) (fun b o' _ _ n=>by rw [zai (ne b n)]; exact n) (fun b o' _ e=>⟨o',e⟩)
  (fun b xs q=>up b _ q (by intro k z; cases z)) (fun b o' u q=>up b _ q (by intro k z; cases z)) (fun b ps q=>⟨#[],by rw [up b _ q (by intro k z; cases z)]; simp⟩) (fun m q=>q) hok I.bare
theorem Inv.thawed (I:Inv X pins σ H s) (h:H a=some (.frz o (.dK kvs))) (n0:∀ o u,X.H₀ a≠some (.frz o u)):Inv X pins σ (upd H a (.dK kvs)) s:=by
 have ne:∀ b,H b=none->b≠a:=fun b n z=>by rw [z,h] at n; cases n
 have un:∀ b,H b=none->upd H a (.dK kvs) b=none:=fun b n=>by rw [zai (ne b n)]; exact n
 have nt:∀ b u,H b=some u->(∀ k v,u≠.frz k v)->upd H a (.dK kvs) b=some u:=fun b u e n=>by
  have:b≠a:=fun z=>by rw [z,h] at e; cases e; exact n _ _ rfl
  rw [zai this]; exact e
 have hok:HOk X.prog X.w (upd H a (.dK kvs)) s.heap:=fun b ob e=>by
  by_cases hb:b=a
  ·subst hb
   rw [zac] at e
   cases e
   exact (I.hok b _ h).2.stay (fun _ _ _ q=>q) (fun c q=>nt c _ q (by intro k v z; cases z)) fun c xs q=>nt c _ q (by intro k v z; cases z)
  ·rw [zai hb] at e
   exact (I.hok b _ e).stay (fun _ _ _ q=>q) (fun c q=>nt c _ q (by intro k v z; cases z)) fun c xs q=>nt c _ q (by intro k v z; cases z)
 refine ⟨I.ok,I.os,I.bare,⟨I.base.keep,I.base.slot,fun b o' e n hx=>un b (I.base.free b o' e n hx),I.base.there,fun b xs q=>nt b _ (I.base.tups b xs q) (by intro k v z; cases z),fun b o' u q=>?_,fun b ps q=>?_⟩,I.loc,I.cell,un _ I.free,fun x c e=>un _ (I.freeC x c e),fun p hp=>?_,hok,I.len⟩
 ·have hb:b≠a:=fun z=>n0 o' u (by rw [<- z]; exact q)
  rw [zai hb]
  exact I.base.frzs b o' u q
 ·obtain ⟨m,e⟩:=I.base.tbls b ps q
  exact ⟨m,nt b _ e (by intro k v z; cases z)⟩
 ·obtain ⟨e,n,r⟩:=I.pin p hp
  exact ⟨e,un _ n,r⟩
end
section
variable {X:Cx} {tg:Expr}
end
structure ClsFn (K:PySem.W.Frag) (C:Addr) (m:Str) (f:Addr):Prop where
 mc:∃ mc,PySem.W.readsIn K C mc=true/\PySem.W.findCls K (.ref C) mc m=some (.val (.ref f))
 ga:PySem.W.specialIn K (.ref C) "__getattribute__" = some (some (.builtin "type.__getattribute__"))
 kp:PySem.W.keepIn K (.ref f)=true
structure SrcU (K:PySem.W.Frag) (C:Addr) (m qual:Str) (st:Stmt) (ps:List Str):Prop where
 ex:∃ (f:Addr) (fd:FuncData),FunE K m qual st f fd/\ClsFn K C m f/\BindsV K fd ps []
structure UpD (P:Program) (w:World) (K:PySem.W.Frag) (mg:Str->Option Value) (base:Heap) (CX:CXT) (k:Nat) (C:Addr) (m:Str) (ps:List Str) (sp:Sp):Prop where
 ex:∃ (f:Addr) (fd:FuncData),FnOk P w K mg base CX k f fd ps sp/\ClsFn K C m f/\BindsV K fd ps []
section
variable {P:Program} {w:World} {K:PySem.W.Frag} {mg:Str->Option Value} {base:Heap} {CX:CXT} {C:Addr} {m qual:Str} {st:Stmt} {N ps:List Str} {k:Nat} {sp:Sp}
theorem SrcU.okN (F:SrcU K C m qual st ps) (S:FnScope N ps (zab st)) (len:∀ vs H Q E,sp vs H Q E->vs.length=ps.length)
    (hbody:∀ (f:Addr) (cdv:Value) (A:Around) (outer:List Env) (s:Shared) (H:Hp) (vs:List V) (Q:VK) (E:XK),Room k (A.deeper (envOfC qual (zab st) s.heap.objs.size f cdv))->sp vs H Q E ->
      ∃ t,PSs (cxOf CX P w K mg base N qual (zab st) f cdv A outer s H E).nox (zak st) t/\t { nx:=fun _ H'=>Q .non H',rt:=Q } (start N vs) H):UpD P w K mg base CX (k+1) C m ps sp:=by
  obtain ⟨f,fd,F,me,b⟩:=F.ex
  obtain ⟨oc,od,dV,kV,doc,pm,an,cdv,ct,osl,rfl,lk,hcd⟩:=F.ex
  exact ⟨f,_,fn_of lk hcd S len fun A outer s H vs Q E hr hsp=>by
    obtain ⟨t,h,q⟩:=hbody f cdv A outer s H vs Q E hr hsp
    exact ⟨t,h.nox,q⟩,me,b⟩
end
def tClsX (sp:Sp) (Ek:XH) (t:TA):TE:=fun σ H Q=>t σ H fun vs H1=>sp vs H1 Q (fun v d H'=>Ek v d σ H')
section
variable {X:Cx} {CX:CXT} {k:Nat} {C:Addr} {ps:List Str} {sp:Sp} {Ek:XH} {x m:Str} {p pos apos:Pos} {e:Expr} {es:List Expr} {t:TA}
theorem zsg {pl:Sem Bool} (D:UpD X.prog X.w X.K X.mg X.base CX k C m ps sp) (hr:Room k X.A) (hx:zfk CX X Ek) (hg:Gl X x) (hm:X.mg x=some (.ref C)) (ha:PA X (e :: es) t)
    (hdb:(x == ("__debug__" : Str))=false:=by decide) (hst:starEach (e :: es) X.env=(false,eval e X.env) :: starEach es X.env:=by rfl) (hpl:(backTo pos (starEach es X.env)).any (·.1)=false:=by rfl)
    (ht:eval (.Call (.Attribute (.Name x p) m apos) (e :: es) [] pos) X.env=(do
      let ov <- eval (.Name x p) X.env
      standAt apos.atName
      let (f,first) <- holding [ov] (getMethod ov m pl)
      callWith pos f first (backTo pos (starEach (e :: es) X.env)) (backToKw pos (keywordEach [] X.env))):=by rfl) :
    PE X (.Call (.Attribute (.Name x p) m apos) (e :: es) [] pos) (tClsX sp Ek t):=by
  obtain ⟨f,fd,F,cf,hb⟩:=D.ex
  obtain ⟨mc,h1,h2⟩:=cf.mc
  intro pins s σ H Q I h
  refine PySem.W.methodCall_KW (pl:=pl) (zhx I hg hm ?_ hdb) ht
  refine PySem.W.method_cls I.kIn cf.ga (PySem.W.cls_value I.kIn h1 h2 rfl ?_)
  have I1:=I.tok (s.toks+1)
  refine PySem.W.callWith_K (first:=[]) (h₀:=X.base) I.ok.mod.kin cf.kp (thn (ha pos pins _ σ H _ I1 h) fun us s2 ⟨vs,H2,I2,r,q2⟩=>⟨I2.kIn,?_⟩) hst hpl
  exact zof (dvs:=[]) F hr hb hx I2 r (by rw [List.append_nil]; exact q2)
end
section
variable {X:Cx}
theorem zsh (K:PySem.W.Frag) (h:X.K=K):OpR X (compareOp .In) (rIn K false):=h ▸ zrj
theorem zni (K:PySem.W.Frag) (h:X.K=K):OpR X (compareOp .NotIn) (rIn K true):=h ▸ zmt
end
abbrev Nm:=List (Str×Int)
def kvsOf (nm:Nm):List (Key×V):=nm.map fun x=>((Sum.inr x.1:Key),V.int x.2)
def shOf (nm:Nm) (x:Str):Option Int:=(nm.find? fun p=>decide (p.1=x)).map (·.2)
def putN (nm:Nm) (x:Str) (s:Int):Nm:=nm.map fun p=>if p.1=x then (p.1,s) else p
theorem zgd (nm:Nm):(kvsOf nm).length=nm.length:=List.length_map _
theorem zfu (nm:Nm) (x:Str):valV (kvsOf nm) (Sum.inr x:Key)=(shOf nm x).map V.int:=by
 induction nm with
 | nil=>rfl
 | cons p r ih =>
  unfold valV kvsOf shOf at ih ⊢
  rw [List.map_cons,List.find?_cons,List.find?_cons]
  by_cases h:p.1=x
  ·simp [h]
  ·have h2:¬ (Sum.inr p.1:Key)=Sum.inr x:=fun z=>h (Sum.inr.inj z)
   simp only [decide_eq_false h,decide_eq_false h2]
   exact ih
theorem zpn {nm:Nm} {x:Str} {s:Int} (h:shOf nm x=none):putK (kvsOf nm) (Sum.inr x:Key) (.int s)=kvsOf (nm++[(x,s)]):=by
 unfold putK
 have e:((kvsOf nm).any fun kv=>decide (kv.1=(Sum.inr x:Key)))=false:=by
  rw [zft,zfu,h]; rfl
 rw [e,if_neg (by decide)]
 unfold kvsOf
 rw [List.map_append]; rfl
theorem zlv {nm:Nm} {x:Str} {s:Int} (h:shOf nm x≠none):putK (kvsOf nm) (Sum.inr x:Key) (.int s)=kvsOf (putN nm x s):=by
 unfold putK
 have e:((kvsOf nm).any fun kv=>decide (kv.1=(Sum.inr x:Key)))=true:=by
  rw [zft,zfu]
  cases q:shOf nm x with
  | none=>exact absurd q h
  | some v=>rfl
 rw [e,if_pos rfl]
 unfold kvsOf putN
 rw [List.map_map,List.map_map]
 refine List.map_congr_left fun p _=>?_
 by_cases hp:p.1=x
 ·subst hp; simp
 ·have h2:¬ (Sum.inr p.1:Key)=Sum.inr x:=fun z=>hp (Sum.inr.inj z)
  simp [hp]
theorem zjd {nm:Nm} {x y:Str} {s:Int}:shOf (putN nm x s) y=if y=x then (shOf nm y).map fun _=>s else shOf nm y:=by
 induction nm with
 | nil=>unfold shOf putN; simp
 | cons p r ih =>
  unfold shOf putN at ih ⊢
  rw [List.map_cons,List.find?_cons,List.find?_cons]
  by_cases hp:p.1=x
  ·rw [if_pos hp]
   by_cases hy:p.1=y
   ·simp [hy,hp ▸ hy.symm]
   ·simp only [decide_eq_false hy]
    exact ih
  ·rw [if_neg hp]
   by_cases hy:p.1=y
   ·have:¬ y=x:=fun z=>hp (hy.trans z)
    simp [hy,this]
   ·simp only [decide_eq_false hy]
    exact ih
theorem zhg {nm:Nm} {x y:Str} {s:Int} (h:shOf nm x=none):shOf (nm++[(x,s)]) y=if y=x then some s else shOf nm y:=by
 unfold shOf at h ⊢
 rw [List.find?_append]
 by_cases hy:y=x
 ·subst hy
  rw [if_pos rfl]
  cases q:nm.find? fun p=>decide (p.1=y) with
  | none=>simp
  | some v=>rw [q] at h; cases h
 ·rw [if_neg hy]
  have e:([(x,s)]:Nm).find? (fun p=>decide (p.1=y))=none:=by
   have:¬ x=y:=fun z=>hy z.symm
   simp [this]
  rw [e]; simp
theorem zpo {nm:Nm} {x:Str} {s:Int} (h:shOf nm x=some s):(x,s)∈nm:=by
 unfold shOf at h
 cases q:nm.find? fun p=>decide (p.1=x) with
 | none=>rw [q] at h; cases h
 | some v =>
  rw [q] at h
  have e1:v.2=s:=Option.some.inj h
  have e2:v.1=x:=by simpa using List.find?_some q
  have:=List.mem_of_find?_eq_some q
  rw [<- e1,<- e2]; exact this
theorem zjt {nm:Nm} {x:Str} {s:Int} (h:(x,s)∈nm):shOf nm x≠none:=by
 unfold shOf
 intro z
 have z:nm.find? (fun p=>decide (p.1=x))=none:=by simpa using z
 have:=List.find?_eq_none.mp z _ h
 simp at this
structure Mb (C:Addr) (H:Hp) (p psh:Addr) (nm:Nm):Prop where
 ex:∃ dx fs,H p=some (.ins C dx fs)/\fs.lookup ("shares" : Str)=some (.ref psh)/\(∀ m:Str,¬ m = "shares" -> fs.lookup m=none)/\fs.length<900
 hs:H psh=some (.dK (kvsOf nm))
theorem Mb.same {C:Addr} {H H':Hp} {p psh:Addr} {nm:Nm} (h:Mb C H p psh nm) (s:Same H H'):Mb C H' p psh nm:=by
 obtain ⟨dx,fs,h1,h2⟩:=h.ex
 exact ⟨⟨dx,fs,s _ _ h1,h2⟩,s _ _ h.hs⟩
theorem Mb.put {C:Addr} {H:Hp} {p psh:Addr} {nm nm':Nm} (h:Mb C H p psh nm):Mb C (upd H psh (.dK (kvsOf nm'))) p psh nm':=by
 obtain ⟨dx,fs,h1,h2⟩:=h.ex
 exact ⟨⟨dx,fs,by rw [zai (ne_of h1 h.hs (by intro z; cases z))]; exact h1,h2⟩,zac⟩
structure RatD (H:Hp) (p:Addr) (f:Str->Option Rat) (n:Nat):Prop where
 ex:∃ kvs,H p=some (.dK kvs)/\(∀ x:Str,(f x=none/\valV kvs (Sum.inr x:Key)=none)\/∃ r q,f x=some r/\valV kvs (Sum.inr x:Key)=some (.ref q)/\H q=some (.tup (fq r)))/\kvs.length<=n
theorem RatD.keep {H H':Hp} {p:Addr} {f:Str->Option Rat} {n:Nat} (h:RatD H p f n) (e:∀ b o,b=p\/(∃ xs,H b=some (.tup xs))->H b=some o->H' b=some o):RatD H' p f n:=by
 obtain ⟨kvs,h1,h2,h3⟩:=h.ex
 refine ⟨kvs,e _ _ (.inl rfl) h1,fun x=>?_,h3⟩
 rcases h2 x with z | ⟨r,q,a,b,c⟩
 ·exact .inl z
 ·exact .inr ⟨r,q,a,b,e _ _ (.inr ⟨_,c⟩) c⟩
theorem RatD.same {H H':Hp} {p:Addr} {f:Str->Option Rat} {n:Nat} (h:RatD H p f n) (s:Same H H'):RatD H' p f n:=h.keep fun b o _ e=>s b o e
def setS (f:Str->Option Rat) (x:Str) (r:Rat):Str->Option Rat:=fun y=>if y=x then some r else f y
theorem RatD.put {H:Hp} {p q:Addr} {f:Str->Option Rat} {n:Nat} {x:Str} {r:Rat} {kvs:List (Key×V)} (h1:H p=some (.dK kvs)) (h2:∀ x:Str,(f x=none/\valV kvs (Sum.inr x:Key)=none)\/∃ r q,f x=some r/\valV kvs (Sum.inr x:Key)=some (.ref q)/\H q=some (.tup (fq r)))
    (h3:(putK kvs (Sum.inr x:Key) (.ref q)).length<=n) (hq:H q=some (.tup (fq r))):RatD (upd H p (.dK (putK kvs (Sum.inr x:Key) (.ref q)))) p (setS f x r) n:=by
  have nt:∀ b xs,H b=some (.tup xs)->upd H p (.dK (putK kvs (Sum.inr x:Key) (.ref q))) b=some (.tup xs):=fun b xs e=>by rw [zai (ne_of e h1 (by intro z; cases z))]; exact e
  refine ⟨_,zac,fun y=>?_,h3⟩
  rw [ztz]
  unfold setS
  by_cases e:y=x
  · subst e
    rw [if_pos rfl,if_pos rfl]
    exact .inr ⟨r,q,rfl,rfl,nt _ _ hq⟩
  · rw [if_neg e,if_neg (fun z=>e (Sum.inr.inj z))]
    rcases h2 y with z | ⟨r',q',a,b,c⟩
    · exact .inl z
    · exact .inr ⟨r',q',a,b,nt _ _ c⟩
structure FS (fs:List (Str×V)) (most:Int) (pm:Addr) (ch:V) (pr pt pg:Addr):Prop where
 mo:fs.lookup ("most" : Str)=some (.int most)
 me:fs.lookup ("members" : Str)=some (.ref pm)
 ch:fs.lookup ("chosen" : Str)=some ch
 re:fs.lookup ("reached" : Str)=some (.ref pr)
 ta:fs.lookup ("tags" : Str)=some (.ref pt)
 gr:fs.lookup ("greatest_steps" : Str)=some (.ref pg)
 no:∀ m:Str,¬ m = "most" -> ¬ m = "members" -> ¬ m = "chosen" -> ¬ m = "reached" -> ¬ m = "tags" -> ¬ m = "greatest_steps" -> fs.lookup m=none
 len:fs.length<900
theorem zag {fs:List (Str×V)} {f g:Str} {v:V} (h:¬ g=f):(putF f v fs).lookup g=fs.lookup g:=by rw [zem,if_neg h]
theorem zbf {fs:List (Str×V)} {f:Str} {v:V}:(putF f v fs).lookup f=some v:=by rw [zem,if_pos rfl]
theorem FS.mk0 (most:Int) (pm:Addr) (ch:V) (pr pt pg:Addr):FS (putF "greatest_steps" (.ref pg) (putF "tags" (.ref pt) (putF "reached" (.ref pr) (putF "chosen" ch (putF "members" (.ref pm) (putF "most" (.int most) [])))))) most pm ch pr pt pg:=by
 refine ⟨?_,?_,?_,?_,?_,?_,fun m h1 h2 h3 h4 h5 h6=>?_,?_⟩
 ·rw [zag (by decide +kernel),zag (by decide +kernel),zag (by decide +kernel),zag (by decide +kernel),zag (by decide +kernel),zbf]
 ·rw [zag (by decide +kernel),zag (by decide +kernel),zag (by decide +kernel),zag (by decide +kernel),zbf]
 ·rw [zag (by decide +kernel),zag (by decide +kernel),zag (by decide +kernel),zbf]
 ·rw [zag (by decide +kernel),zag (by decide +kernel),zbf]
 ·rw [zag (by decide +kernel),zbf]
 ·rw [zbf]
 ·rw [zag h6,zag h5,zag h4,zag h3,zag h2,zag h1]; rfl
 ·have a1:=zao (fs:=[]) (f := "most") (v:=.int most)
  have a2:=zao (fs:=putF "most" (.int most) []) (f := "members") (v:=.ref pm)
  have a3:=zao (fs:=putF "members" (.ref pm) (putF "most" (.int most) [])) (f := "chosen") (v:=ch)
  have a4:=zao (fs:=putF "chosen" ch (putF "members" (.ref pm) (putF "most" (.int most) []))) (f := "reached") (v:=.ref pr)
  have a5:=zao (fs:=putF "reached" (.ref pr) (putF "chosen" ch (putF "members" (.ref pm) (putF "most" (.int most) [])))) (f := "tags") (v:=.ref pt)
  have a6:=zao (fs:=putF "tags" (.ref pt) (putF "reached" (.ref pr) (putF "chosen" ch (putF "members" (.ref pm) (putF "most" (.int most) []))))) (f := "greatest_steps") (v:=.ref pg)
  simp only [List.length_nil] at a1
  omega
theorem FS.put_ch {fs:List (Str×V)} {most:Int} {pm:Addr} {ch ch':V} {pr pt pg:Addr} (h:FS fs most pm ch pr pt pg):FS (putF "chosen" ch' fs) most pm ch' pr pt pg:=by
 refine ⟨?_,?_,zbf,?_,?_,?_,fun m h1 h2 h3 h4 h5 h6=>?_,?_⟩
 ·rw [zag (by decide +kernel)]; exact h.mo
 ·rw [zag (by decide +kernel)]; exact h.me
 ·rw [zag (by decide +kernel)]; exact h.re
 ·rw [zag (by decide +kernel)]; exact h.ta
 ·rw [zag (by decide +kernel)]; exact h.gr
 ·rw [zag h3]; exact h.no m h1 h2 h3 h4 h5 h6
 ·rw [zfh h.ch]; exact h.len
theorem FS.put_re {fs:List (Str×V)} {most:Int} {pm:Addr} {ch:V} {pr pr' pt pg:Addr} (h:FS fs most pm ch pr pt pg):FS (putF "reached" (.ref pr') fs) most pm ch pr' pt pg:=by
 refine ⟨?_,?_,?_,zbf,?_,?_,fun m h1 h2 h3 h4 h5 h6=>?_,?_⟩
 ·rw [zag (by decide +kernel)]; exact h.mo
 ·rw [zag (by decide +kernel)]; exact h.me
 ·rw [zag (by decide +kernel)]; exact h.ch
 ·rw [zag (by decide +kernel)]; exact h.ta
 ·rw [zag (by decide +kernel)]; exact h.gr
 ·rw [zag h4]; exact h.no m h1 h2 h3 h4 h5 h6
 ·rw [zfh h.re]; exact h.len
structure At5 where
 p:Addr
 pm:Addr
 ps:Addr
 pt:Addr
 pg:Addr
structure Sx (C Cm:Addr) (H:Hp) (a:At5) (most:Int) (nm:Nm) (tg gs:Str->Option Rat) (ck:Rat) (ch:V) (N:Nat):Prop where
 ex:∃ dx fs pr,H a.p=some (.ins C dx fs)/\FS fs most a.pm ch pr a.pt a.pg/\H pr=some (.tup (fq ck))
 mb:Mb Cm H a.pm a.ps nm
 dt:RatD H a.pt tg N
 dg:RatD H a.pg gs N
 nl:nm.length<=N
 n1:a.pt≠a.pg
 n2:a.pt≠a.ps
 n3:a.pg≠a.ps
 n4:a.p≠a.pm
theorem Sx.same {C Cm:Addr} {H H':Hp} {a:At5} {most:Int} {nm:Nm} {tg gs:Str->Option Rat} {ck:Rat} {ch:V} {N:Nat} (h:Sx C Cm H a most nm tg gs ck ch N) (s:Same H H'):Sx C Cm H' a most nm tg gs ck ch N:=by
 obtain ⟨dx,fs,pr,h1,h2,h3⟩:=h.ex
 exact ⟨⟨dx,fs,pr,s _ _ h1,h2,s _ _ h3⟩,h.mb.same s,h.dt.same s,h.dg.same s,h.nl,h.n1,h.n2,h.n3,h.n4⟩
def Own (a:At5) (H H':Hp):Prop:=∀ b o,b≠a.p->b≠a.ps->b≠a.pt->b≠a.pg->H b=some o->H' b=some o
theorem Same.own {a:At5} {H H':Hp} (s:Same H H'):Own a H H':=fun b o _ _ _ _ e=>s b o e
theorem Own.trans {a:At5} {H H1 H2:Hp} (x:Own a H H1) (y:Own a H1 H2):Own a H H2:=fun b o n1 n2 n3 n4 e=>y b o n1 n2 n3 n4 (x b o n1 n2 n3 n4 e)
def lessO (st:Str->Rat) (x:Str):Option Str->Bool
 | none=>true
 | some y=>decide (st x<st y)
def pickF (rd:Str->Bool) (st:Str->Rat):List Str->Option Str->Option Str
 | [],f=>f
 | x :: r,f=>pickF rd st r (if (rd x && lessO st x f)=true then some x else f)
theorem zge {rd:Str->Bool} {st:Str->Rat}:∀ {l:List Str} {f:Option Str} {x:Str},pickF rd st l f=some x->(x∈l/\rd x=true)\/f=some x
 | [],f,x,h=>.inr h
 | y :: r,f,x,h=>by
  unfold pickF at h
  rcases zge h with ⟨a,b⟩ | z
  ·exact .inl ⟨List.mem_cons_of_mem _ a,b⟩
  ·split at z
   ·rename_i c
    cases z
    rw [Bool.and_eq_true] at c
    exact .inl ⟨by simp,c.1⟩
   ·exact .inr z
theorem zid {rd:Str->Bool} {st:Str->Rat}:∀ {l:List Str} {f:Option Str},(f≠none\/∃ x∈l,rd x=true)->pickF rd st l f≠none
 | [],f,h=>by
  rcases h with z | ⟨x,hx,_⟩
  ·exact z
  ·cases hx
 | y :: r,f,h=>by
  unfold pickF
  refine zid ?_
  by_cases c:(rd y && lessO st y f)=true
  ·rw [if_pos c]; exact .inl (by simp)
  ·rw [if_neg c]
   cases f with
   | some z=>exact .inl (by simp)
   | none =>
    rcases h with z | ⟨x,hx,hr⟩
    ·exact absurd rfl z
    ·rcases List.mem_cons.mp hx with e | e
     ·subst e
      exact absurd (by rw [hr]; rfl) c
     ·exact .inr ⟨x,e,hr⟩
theorem zlj {rd:Str->Bool} {st:Str->Rat} {x:Str}:∀ {l:List Str} {f:Option Str},pickF rd st (l++[x]) f=(if (rd x && lessO st x (pickF rd st l f))=true then some x else pickF rd st l f)
 | [],f=>rfl
 | y :: r,f=>by
  show pickF rd st (r++[x]) _ = _
  rw [zlj]
  rfl
theorem RatD.mono {H:Hp} {p:Addr} {f:Str->Option Rat} {n n':Nat} (h:RatD H p f n) (l:n<=n'):RatD H p f n':=by
 obtain ⟨kvs,h1,h2,h3⟩:=h.ex
 exact ⟨kvs,h1,h2,by omega⟩
section
variable {C Cm:Addr} {H:Hp} {a:At5} {most:Int} {nm nm':Nm} {tg gs tg' gs':Str->Option Rat} {ck:Rat} {ch:V} {N N':Nat} {k:List (Key×V)}
theorem Sx.set_t (S:Sx C Cm H a most nm tg gs ck ch N) (le:N<=N') (d:RatD (upd H a.pt (.dK k)) a.pt tg' N'):Sx C Cm (upd H a.pt (.dK k)) a most nm tg' gs ck ch N':=by
 obtain ⟨dx,fs,pr,h1,h2,h3⟩:=S.ex
 obtain ⟨kvs,g1,_⟩:=S.dt.ex
 obtain ⟨dm,fm,m1,m2⟩:=S.mb.ex
 have kp:∀ b o,b≠a.pt->H b=some o->upd H a.pt (.dK k) b=some o:=fun b o n e=>by rw [zai n]; exact e
 refine ⟨⟨dx,fs,pr,kp _ _ (ne_of h1 g1 (by intro z; cases z)) h1,h2,kp _ _ (ne_of h3 g1 (by intro z; cases z)) h3⟩,⟨⟨dm,fm,kp _ _ (ne_of m1 g1 (by intro z; cases z)) m1,m2⟩,kp _ _ S.n2.symm S.mb.hs⟩,d,(S.dg.keep fun b o c e=>?_).mono le,by have:=S.nl; omega,S.n1,S.n2,S.n3,S.n4⟩
 rcases c with z | ⟨xs,z⟩
 ·subst z; exact kp _ _ S.n1.symm e
 ·exact kp _ _ (ne_of z g1 (by intro z; cases z)) e
theorem Sx.set_g (S:Sx C Cm H a most nm tg gs ck ch N) (le:N<=N') (d:RatD (upd H a.pg (.dK k)) a.pg gs' N'):Sx C Cm (upd H a.pg (.dK k)) a most nm tg gs' ck ch N':=by
 obtain ⟨dx,fs,pr,h1,h2,h3⟩:=S.ex
 obtain ⟨kvs,g1,_⟩:=S.dg.ex
 obtain ⟨dm,fm,m1,m2⟩:=S.mb.ex
 have kp:∀ b o,b≠a.pg->H b=some o->upd H a.pg (.dK k) b=some o:=fun b o n e=>by rw [zai n]; exact e
 refine ⟨⟨dx,fs,pr,kp _ _ (ne_of h1 g1 (by intro z; cases z)) h1,h2,kp _ _ (ne_of h3 g1 (by intro z; cases z)) h3⟩,⟨⟨dm,fm,kp _ _ (ne_of m1 g1 (by intro z; cases z)) m1,m2⟩,kp _ _ S.n3.symm S.mb.hs⟩,(S.dt.keep fun b o c e=>?_).mono le,d,by have:=S.nl; omega,S.n1,S.n2,S.n3,S.n4⟩
 rcases c with z | ⟨xs,z⟩
 ·subst z; exact kp _ _ S.n1 e
 ·exact kp _ _ (ne_of z g1 (by intro z; cases z)) e
theorem Sx.set_s (S:Sx C Cm H a most nm tg gs ck ch N) (le:N<=N') (ln:nm'.length<=N'):Sx C Cm (upd H a.ps (.dK (kvsOf nm'))) a most nm' tg gs ck ch N':=by
 obtain ⟨dx,fs,pr,h1,h2,h3⟩:=S.ex
 have g1:=S.mb.hs
 have kp:∀ b o,b≠a.ps->H b=some o->upd H a.ps (.dK (kvsOf nm')) b=some o:=fun b o n e=>by rw [zai n]; exact e
 refine ⟨⟨dx,fs,pr,kp _ _ (ne_of h1 g1 (by intro z; cases z)) h1,h2,kp _ _ (ne_of h3 g1 (by intro z; cases z)) h3⟩,S.mb.put,(S.dt.keep fun b o c e=>?_).mono le,(S.dg.keep fun b o c e=>?_).mono le,ln,S.n1,S.n2,S.n3,S.n4⟩
 ·rcases c with z | ⟨xs,z⟩
  ·subst z; exact kp _ _ S.n2 e
  ·exact kp _ _ (ne_of z g1 (by intro z; cases z)) e
 ·rcases c with z | ⟨xs,z⟩
  ·subst z; exact kp _ _ S.n3 e
  ·exact kp _ _ (ne_of z g1 (by intro z; cases z)) e
theorem Sx.set_p {ck':Rat} {ch':V} {dx pr':Addr} {fs fs':List (Str×V)} (S:Sx C Cm H a most nm tg gs ck ch N) (h1:H a.p=some (.ins C dx fs)) (ft:FS fs' most a.pm ch' pr' a.pt a.pg) (h3:H pr'=some (.tup (fq ck'))):Sx C Cm (upd H a.p (.ins C dx fs')) a most nm tg gs ck' ch' N:=by
 obtain ⟨dm,fm,m1,m2⟩:=S.mb.ex
 have kp:∀ b o,b≠a.p->H b=some o->upd H a.p (.ins C dx fs') b=some o:=fun b o n e=>by rw [zai n]; exact e
 refine ⟨⟨dx,fs',pr',zac,ft,kp _ _ (ne_of h3 h1 (by intro z; cases z)) h3⟩,⟨⟨dm,fm,kp _ _ S.n4.symm m1,m2⟩,kp _ _ (ne_of S.mb.hs h1 (by intro z; cases z)) S.mb.hs⟩,S.dt.keep fun b o c e=>?_,S.dg.keep fun b o c e=>?_,S.nl,S.n1,S.n2,S.n3,S.n4⟩
 ·rcases c with z | ⟨xs,z⟩
  ·obtain ⟨kvs,g1,_⟩:=S.dt.ex
   subst z; exact kp _ _ (ne_of g1 h1 (by intro z; cases z)) e
  ·exact kp _ _ (ne_of z h1 (by intro z; cases z)) e
 ·rcases c with z | ⟨xs,z⟩
  ·obtain ⟨kvs,g1,_⟩:=S.dg.ex
   subst z; exact kp _ _ (ne_of g1 h1 (by intro z; cases z)) e
  ·exact kp _ _ (ne_of z h1 (by intro z; cases z)) e
end
theorem own_t {a:At5} {H:Hp} {o:HO}:Own a H (upd H a.pt o):=fun b u n1 n2 n3 n4 e=>by rw [zai n3]; exact e
theorem own_g {a:At5} {H:Hp} {o:HO}:Own a H (upd H a.pg o):=fun b u n1 n2 n3 n4 e=>by rw [zai n4]; exact e
theorem own_s {a:At5} {H:Hp} {o:HO}:Own a H (upd H a.ps o):=fun b u n1 n2 n3 n4 e=>by rw [zai n2]; exact e
theorem own_p {a:At5} {H:Hp} {o:HO}:Own a H (upd H a.p o):=fun b u n1 n2 n3 n4 e=>by rw [zai n1]; exact e
theorem rat01:((0:Int):Rat) / ((1:Int):Rat) = 0:=by
 have z0:((0:Int):Rat) = 0:=rfl
 rw [z0]; grind
structure Iv (nm:Nm) (tg gs:Str->Option Rat) (ck:Rat) (D:Int) (n:Nat):Prop where
 d0:0<D
 dz:Sw.Sz (21*n+1) D
 cg:Sw.Grd D ck
 c0:0<=ck
 cB:ck<=((n*2000000:Int):Rat)
 all:∀ x s,shOf nm x=some s->1<=s/\s<=1000000/\∃ t g,tg x=some t/\gs x=some g/\Sw.Grd D t/\Sw.Grd D g/\0<=t/\0<=g/\g<=((1000000:Int):Rat)/\t<=ck+g
structure Hd where
 C:Addr
 i:Option Nat
 th:TS
section
variable {P:Program} {w:World} {X:Cx} {C':Addr} {x:Str} {np hpos pos:Pos} {body suite:List Stmt} {b0:Stmt} {tb:XH->TS} {th:TS} {h0:ExceptHandler} {hds:List ExceptHandler} {hs:List Hd}
end
section
variable {X:Cx}
end
end L2
namespace L2
open PySem PySem.Spec PyProof.Rows PySem.MeetsSeq
theorem zwr (l:Addr) (items:Array Value) (n:Nat) (x:Value) (e:Nat->Bool) (j:Nat) (hj:j<items.size) (hit:e j=true) (k:Nat) (hs1:items.size<=sizeLine) :
    ∀ i:Nat,j-i=k->i<=j->(∀ m,i<=m->m<j->e m=false)->Meets (Builtin.«list.remove.loop» ⟨[.ref l,x,rawInt i],[]⟩)
      (fun A R s=>(∀ m (hm:m<items.size),m<=j->SeqAt.EqAt A.in1 s items[m] x (e m))/\s.heap.get? l=some { cls:=.type "list", dict:=none,data:=.seq items n,slots:=#[] }/\R (.ok (.ret .none)) { s with heap:=s.heap.update l (Obj.mapSeq fun xs=>xs.eraseIdxIfInBounds j) }):=by
  induction k with
  | zero =>
    intro i hk hij hno prog w A R s h
    obtain ⟨hp,g,d,tk,os⟩:=s; obtain ⟨he,hl,h⟩:=h
    have hij':i=j:=by omega
    subst hij'
    wp_walk using wpAny_loadPart' hl
    have hi:items[((i:Nat):Int).toNat]? = some items[i]:=by simp [hj]
    rw [hi]
    refine wpAny_bind (he i hj (Nat.le_refl _) prog w _ _ ?_)
    rw [hit]
    have hz':(items.eraseIdxIfInBounds i).size<=sizeLine+1:=Nat.le_trans (size_erased items _) (Nat.le_succ_of_le hs1)
    wp_walk using (wpAny_updateSeq hl rfl (hz:=hs1) (_hz':=hz')),wpAny_loadPart' hl
    simpa using h
  | succ k ih =>
    intro i hk hij hno prog w A R s h
    obtain ⟨hp,g,d,tk,os⟩:=s; obtain ⟨he,hl,h⟩:=h
    have hlt:i<items.size:=by omega
    wp_walk using wpAny_loadPart' hl
    have hi:items[((i:Nat):Int).toNat]? = some items[i]:=by simp [hlt]
    have hc:((i:Int)+1)=((i+1:Nat):Int):=by push_cast; rfl
    rw [hi]
    refine wpAny_bind (he i hlt hij prog w _ _ ?_)
    rw [hno i (Nat.le_refl _) (by omega)]
    wp_walk
    rw [hc]
    exact ⟨plainId_quiet plain_remove_loop _,codeAny_builtin entry_remove_loop (by
      rw [Around.under_plainId plain_remove_loop _]
      exact ih (i+1) (by omega) (by omega) (fun m h1 h2=>hno m (by omega) h2) prog w A R _ ⟨he,hl,h⟩)⟩
theorem zub (l:Addr) (items:Array Value) (n:Nat) (x:Value) (e:Nat->Bool) (j:Nat) (hj:j<items.size) (hit:e j=true) (hno:∀ m,m<j->e m=false) (hs1:items.size<=sizeLine) :
    Meets (Builtin.«list.remove» ⟨[.ref l,x],[]⟩)
      (fun A R s=>(∀ m (hm:m<items.size),m<=j->SeqAt.EqAt A.in1 s items[m] x (e m))/\s.heap.get? l=some { cls:=.type "list", dict:=none,data:=.seq items n,slots:=#[] }/\R (.ok (.ret .none)) { s with heap:=s.heap.update l (Obj.mapSeq fun xs=>xs.eraseIdxIfInBounds j) }):=by
  intro prog w A R s h
  obtain ⟨hp,g,d,tk,os⟩:=s; obtain ⟨he,hl,h⟩:=h
  wp_walk using wpAny_loadPart' hl
  exact ⟨plainId_quiet plain_remove_loop _,codeAny_builtin entry_remove_loop (by
    rw [Around.under_plainId plain_remove_loop _]
    exact zwr l items n x e j hj hit _ hs1 0 rfl (Nat.zero_le _) (fun m _ h2=>hno m h2) prog w A R _ ⟨he,hl,h⟩)⟩
def zsi (K:PySem.W.Frag):V->List V->Hp->VK->Prop:=fun x vs H Q=>∃ l xs y j d ds,x = .ref l/\vs = [y]/\H l=some (.lst xs)/\xs.length<sizeLine/\j<xs.length/\Deep K H y d/\PySem.SeqAt.shaped d=true/\DeepAll K H (xs.take (j+1)) ds/\(∀ e∈ds,PySem.SeqAt.shaped e=true) /\
 ds[j]?.map (fun e=>PyData.eqv e d)=some true/\(∀ m e,m<j->ds[m]? = some e->PyData.eqv e d=false)/\Q .non (upd H l (.lst (xs.eraseIdx j)))
theorem zpp:∀ {xs:List V} {us:List Value} {m:Nat} {u:Value},Vals xs us->us[m]? = some u->∃ x,xs[m]? = some x/\RelV x u
 | _,_,0,u,.cons r _,h=>by
  have:_=u:=Option.some.inj h
  subst this
  exact ⟨_,rfl,r⟩
 | _,_,m+1,u,.cons _ t,h=>by
  obtain ⟨x,h1,h2⟩:=zpp (m:=m) t (by simpa using h)
  exact ⟨x,by simpa using h1,h2⟩
theorem zju {K:PySem.W.Frag} {H:Hp}:∀ {xs:List V} {ds:List PyData} {m:Nat} {x:V},DeepAll K H xs ds->xs[m]? = some x->∃ d,ds[m]? = some d/\Deep K H x d
 | _,_,0,x,.cons r _,h=>by
  have:_=x:=Option.some.inj h
  subst this
  exact ⟨_,rfl,r⟩
 | _,_,m+1,x,.cons _ t,h=>by
  obtain ⟨d,h1,h2⟩:=zju (m:=m) t (by simpa using h)
  exact ⟨d,by simpa using h1,h2⟩
theorem zlk:∀ {xs:List V} {us:List Value} (j:Nat),Vals xs us->Vals (xs.eraseIdx j) (us.eraseIdx j)
 | _,_,_,.nil=>.nil
 | _,_,0,.cons _ t=>t
 | _,_,j+1,.cons r t=>.cons r (zlk j t)
section
variable {X:Cx}
theorem zsj (K:PySem.W.Frag) (h:X.K=K) (hu:X.A.units+66<cLine):MtM X "list.remove" (zsi K):=by
 subst h
 intro pins s σ H x vs v us Q I rx rv h
 obtain ⟨l,xs,y,j,d,ds,rfl,rfl,hH,hz,hj,dy,sy,dx,sx,hit,hno,q⟩:=h
 cases rx
 obtain ⟨u,rfl,ru⟩:=rv.one
 obtain ⟨z,its,n,r,hl,e⟩:=I.lstM hH
 have len:=r.length
 obtain ⟨as,ra⟩:=zfm I dy ru
 have eq:∀ m (hm:m<its.toArray.size),m<=j->SeqAt.EqAt X.A.in1 s its.toArray[m] u ((ds[m]?.map fun e=>PyData.eqv e d).getD false):=fun m hm hmj=>by
  have hm2:m<its.length:=by simpa using hm
  have e1:its[m]? = some its.toArray[m]:=by rw [List.getElem?_eq_getElem hm2]; simp
  obtain ⟨x,h1,h2⟩:=zpp r e1
  have h3:(xs.take (j+1))[m]? = some x:=by rw [List.getElem?_take,if_pos (by omega)]; exact h1
  obtain ⟨e',h4,h5⟩:=zju dx h3
  obtain ⟨bs,rb⟩:=zfm I h5 h2
  have se:=sx e' (List.mem_of_getElem? h4)
  rw [h4]
  exact SeqAt.eqAt_reads e' d X.A.in1 s _ _ bs as rb ra (PySem.SeqAt.canLay_of_shaped se) (PySem.SeqAt.canLay_of_shaped sy) (PySem.SeqAt.room_of_shaped se (by show X.A.units+1+64<cLine; omega))
 have hit':(ds[j]?.map fun e=>PyData.eqv e d).getD false=true:=by rw [hit]; rfl
 have hno':∀ m,m<j->(ds[m]?.map fun e=>PyData.eqv e d).getD false=false:=fun m hm=>by
  cases c:ds[m]? with
  | none=>rfl
  | some e=>exact hno m e hm c
 refine call_meets F.slot_list_remove ⟨_,e,rfl⟩ F.entry_list_remove (F.args_list_remove_2 _ _) (zub l its.toArray n u (fun m=>(ds[m]?.map fun e=>PyData.eqv e d).getD false) j (by rw [List.size_toArray]; omega) hit' hno' (by rw [List.size_toArray]; omega)) ⟨eq,e,?_⟩
 refine ⟨.non,_,I.lset (its':=its.eraseIdx j) hH e ?_ (zlk j r) ?_,rfl,q⟩
 ·simp [Array.eraseIdxIfInBounds]
  exact fun c=>absurd c (by omega)
 ·rw [List.length_eraseIdx]
  split <;> omega
end
end L2
namespace L2
open PySem PySem.Spec PyProof.Rows
theorem Room.units66 {k:Nat} {A:Around} (r:Room k A):A.units+66<cLine:=by have:=r.un; omega
section
variable {X:Cx}
end
def Iti (a:Addr) (o:Obj) (kvs:List (Key×V)):It :=
 ⟨fun i H=>i<kvs.length/\H a=some (.frz o (.dK kvs)),fun i H x H'=>∃ p kv,x = .ref p/\H p=none/\kvs[i]? = some kv/\H'=upd H p (.tup [kV kv.1,kv.2]),fun i H=>kvs.length<=i/\H a=some (.frz o (.dK kvs))⟩
theorem zqm {P:Program} {w:World} {K:PySem.W.Frag} {elts:List Expr} {x1} {pos:Pos} (a it:Addr) {o:Obj} {kvs:List (Key×V)} {vs:List (Key×Value)} {es:Array DictEntry} {ep:Nat} (rel:KV kvs vs)
    (ho:o.ExactDict/\o.data = .dict es ep/\KeysOf (zca P w) es/\Pairs (zca P w) es.toList vs/\(vs.map (·.1)).Nodup):Turn P w K (.Tuple elts x1 pos) (Iti a o kvs) [it] it (fun i h=>∃ ok ov,IsItemIter h it a i vs.length ep ok ov) where
  mem:=by simp
  obj:=fun i h st b hb=>by
    have e:b=it:=by simpa using hb
    subst e
    obtain ⟨ok,ov,e⟩:=st
    exact ⟨_,e,fun v z=>by cases z⟩
  keep:=fun i h h' st k=>by
    obtain ⟨ok,ov,e⟩:=st
    exact ⟨ok,ov,k it (by simp) _ e⟩
  item:=by
    intro X hP hw hK hc i pins s σ H E I hf st hg
    subst hP hw hK
    obtain ⟨hi,hz⟩:=hg
    obtain ⟨ok,ov,he⟩:=st
    obtain ⟨f0,f1,f2,f3,f4,f5⟩:=hf it (by simp)
    have hkv:kvs[i]? = some (kvs[i]'hi):=List.getElem?_eq_getElem _
    have hi':i<vs.length:=by rw [<- rel.length]; exact hi
    have hv:vs[i]? = some (vs[i]'hi'):=List.getElem?_eq_getElem _
    obtain ⟨q,hq,rq⟩:=zic rel hkv
    rw [hv] at hq
    cases hq
    have da:s.heap.DictAt (zca X.prog X.w) a vs ep:=⟨o,es,(I.hok a _ hz).1,ho⟩
    refine wpAny_pyNext_items_item (v:=(vs[i]'hi').2) he da hv fun key h' hkey ho' hT hsz hk=>?_
    refine ⟨.ref s.heap.objs.size,rfl,wpAny_letOwnedTupleGo_items ho' fun hp2 hz2 hs2=>?_⟩
    have hs2':Heap.SameBut it h' hp2:=hs2
    have nsz:s.heap.objs.size≠it:=Nat.ne_of_gt (Heap.lt_size he)
    have htup:hp2.get? s.heap.objs.size=some { cls:=.type "tuple", data:=.seq #[key,(vs[i]'hi').2] }:=(hs2'.2 _ nsz).trans hT
    have k2:∀ c o,c ∉ [it]->s.heap.get? c=some o->hp2.get? c=some o:=fun c o n q=>by
      simp only [List.mem_cons,List.not_mem_nil,or_false] at n
      exact (hs2'.2 c n).trans (hk c o n q)
    have fresh:H s.heap.objs.size=none:=I.hok.fresh (Nat.le_refl _)
    have nit:∀ c v,H c=some v->c ∉ [it]:=fun c v q h=>by
      have e:c=it:=by simpa using h
      rw [e,f0] at q; cases q
    have up:∀ c o,H c=some o->(upd H s.heap.objs.size (.tup [kV (kvs[i]'hi).1,(kvs[i]'hi).2])) c=some o:=fun c o q=>by rw [zai (zan q fresh)]; exact q
    have rk:RelV (kV (kvs[i]'hi).1) key:=by rw [rq.1]; exact kV_of hkey
    have I2:Inv X pins σ (upd H s.heap.objs.size (.tup [kV (kvs[i]'hi).1,(kvs[i]'hi).2])) { s with heap:=hp2 }:=by
      refine I.step (t':=s.toks) (g':=s.gens) (d':=s.drawn) (ch:=[it]) (fun c hc=>?_) (fun c o _ _ hc q _=>k2 c o hc q)
        (fun c o _ _ hc q _=>⟨o.slots,k2 c o hc q⟩) (fun c o _ q n=>by rw [zai (Nat.ne_of_lt (Heap.lt_size q))]; exact n)
        (fun c o hc q=>⟨o,k2 c o hc q⟩) (fun c zs q=>up c _ q) (fun c ob v q=>up c _ q) (fun c ps q=>⟨#[],by rw [up c _ q]; simp⟩) (fun m hm=>?_) (fun c v q=>?_) I.bare
      · obtain ⟨f0,f1,f2,f3,f4,f5⟩:=hf c hc
        exact ⟨f3,f1,f4,f5⟩
      · obtain ⟨o,es,ep,ho,r⟩:=hm
        refine ⟨o,es,ep,k2 _ o (fun h=>?_) ho,r⟩
        exact (hf _ h).2.1 rfl
      · by_cases hb:c=s.heap.objs.size
        · subst hb
          rw [zac] at q
          cases q
          exact ⟨by show 2<=sizeLine; decide,[key,(vs[i]'hi').2],.cons rk (.cons rq.2 .nil),_,htup,rfl,_,rfl⟩
        · rw [zai hb] at q
          refine (I.hok c v q).stay (fun d v' hd q'=>?_) (fun d y=>up d _ y) fun d zs y=>up d _ y
          refine k2 d v' ?_ q'
          rcases hd with y | y
          · rw [y]; exact nit c v q
          · exact nit d _ y
    refine ⟨.ref s.heap.objs.size,_,I2,rfl,⟨s.heap.objs.size,_,rfl,fresh,hkv,rfl⟩,⟨_,_,hz2⟩,fun c hc=>?_⟩
    have e:c=it:=by simpa using hc
    subst e
    rw [zai nsz.symm]
    exact f0
  done:=by
    intro X hP hw hK hc i pins s σ H E I hf st hg
    subst hP hw hK
    obtain ⟨hi,hz⟩:=hg
    obtain ⟨ok,ov,he⟩:=st
    obtain ⟨f0,f1,f2,f3,f4,f5⟩:=hf it (by simp)
    have da:s.heap.DictAt (zca X.prog X.w) a vs ep:=⟨o,es,(I.hok a _ hz).1,ho⟩
    exact wpAny_pyNext_items_end (I.ok.hd hc) he da (List.getElem?_eq_none (by rw [<- rel.length]; exact hi)) fun h' eb=>⟨rfl,I.turned (t':=s.toks) (fun b o hb e=>eb b o hb e) f0 f1 f3 f4 f5⟩
  self:=fun _ _ _ _ _ st h=>by
    obtain ⟨ok,ov,he⟩:=st
    exact PySem.W.kcp_self he h
section
variable {X:Cx}
end
section
variable {X:Cx} {pins:List (Addr×Obj)} {σ:St} {H:Hp} {s:Shared} {a vw:Addr} {kvs:List (Key×V)} {Q:VK}
end
section
variable {X:Cx}
end
section
variable {X:Cx}
end
def zvi (tl:TE):TI:=fun σ H R=>tl σ H fun x H1=>∃ a kvs,x = .ref a/\H1 a=some (.dK kvs)/\∀ o,R (Iti a o kvs) (upd H1 a (.frz o (.dK kvs)))
section
variable {X:Cx}
theorem zuc {o:Expr} {apos cpos tpos:Pos} {elts:List Expr} {x1} {tl:TE} (hl:PE X o tl) (hbase:attributeBase o "items" X.env (eval o X.env)=eval o X.env:=by rfl) (hline:(apos.endLine == cpos.line)=true:=by rfl) :
    PI X (.Tuple elts x1 tpos) (.Call (.Attribute o "items" apos) [] [] cpos) (zvi tl):=by
  intro pins s σ H R I h
  refine wpAny_Call_method0_late hbase hline (thn (hl pins s σ H _ I h) fun v s1 ⟨x,H1,I1,r1,a,kvs,ex,ha,hall⟩=>?_)
  subst ex
  obtain rfl:v=Value.ref a:=r1
  obtain ⟨t1,t2,_⟩:=zyx I1 (.inl ⟨kvs,.inl ha⟩)
  obtain ⟨z,hd,vs,rel,o',es,ep,ho,hx⟩:=dk_of I1.hok ha
  refine ⟨"dict", "dict.items", PySem.F.plainAttrs_dict,PySem.F.slot_dict_items,PySem.F.type_dict_items,t1,t2,Calls.callWith_builtin rfl (PySem.evalArgs_none ?_)⟩
  refine call_meetsIn PySem.F.slot_dict_items t1 PySem.F.entry_dict_items (PySem.F.args_dict_items_1 _) (meets_dict_items (zca X.prog X.w) a hd) ⟨⟨vs,o',es,ep,ho,hx⟩,?_⟩
  have Iv:Inv X pins σ H1 { s1 with heap:=s1.heap.push { cls:=.type "dict_items", data:=.fields #[.ref a] } }:=I1.kept (t':=s1.toks) fun b o e=>Heap.get?_push_of_some _ e
  have hov:(s1.heap.push { cls:=.type "dict_items", data:=.fields #[.ref a] }).get? a=some o':=Heap.get?_push_of_some _ ho
  have hvw:(s1.heap.push { cls:=.type "dict_items", data:=.fields #[.ref a] }).IsItemsView s1.heap.objs.size a:=⟨_,Heap.get?_push_size _ rfl,rfl,rfl⟩
  generalize s1.heap.push { cls:=.type "dict_items", data:=.fields #[.ref a] } = hv at Iv hov hvw ⊢
  refine wpAny_pyIter_items (s:={ s1 with heap:=hv }) (knd:=zca X.prog X.w) hvw ⟨o',es,hov,hx⟩ ?_
  have fresh:H1 hv.objs.size=none:=Iv.hok.fresh (Nat.le_refl _)
  have na:hv.objs.size≠a:=fun y=>by rw [y,ha] at fresh; cases fresh
  have I2:Inv X pins σ (upd H1 a (.frz o' (.dK kvs))) { s1 with heap:=hv.push { cls:=.type "dict_itemiterator", data:=.fields #[.none,.bool false,.ref a,.int 0 0,.int vs.length 0,.int ep 0,.none,.none] } } :=
    (Iv.kept (t':=s1.toks) fun b o e=>Heap.get?_push_of_some _ e).frozen ha (Heap.get?_push_of_some _ hov)
  refine ⟨hv.objs.size,[hv.objs.size],_,_,_,rfl,I2,zqm a _ rel hx,⟨.none,.none,Heap.get?_push_size _ rfl⟩,fun b hb=>?_,hall o'⟩
  have e:b=hv.objs.size:=by simpa using hb
  subst e
  have fp1:=Iv.fpOk (Nat.le_refl _) fresh
  exact ⟨by rw [zai na]; exact fresh,fp1.2⟩
def tThaw (t:TE):TE:=fun σ H Q=>t σ H fun x H'=>∃ a o kvs kvs',H a=some (.dK kvs')/\H' a=some (.frz o (.dK kvs))/\Q x (upd H' a (.dK kvs))
theorem zws {e:Expr} {t:TE} (h:PE X e t):PE X e (tThaw t):=by
 intro pins s σ H Q I q
 refine thn (h pins s σ H _ I q) fun v s1 ⟨x,H1,I1,r1,a,o,kvs,kvs',h0,h1,q1⟩=>?_
 refine ⟨x,_,I1.thawed h1 fun o' u e=>?_,r1,q1⟩
 have:=I.base.frzs a o' u e
 rw [h0] at this
 cases this
end
theorem zqn {a:Addr} {kvs:List (Key×V)} {o:Obj} {g:TG} {tc:TT} {te:TE} {D:Addr} {τ:St} {H:Hp} {Q:VK} (Pv:Nat->St->Hp->Prop) (h0:Pv 0 τ H) (hz:∀ i τ H,i<=kvs.length->Pv i τ H->H a=some (.frz o (.dK kvs)))
    (hs:∀ i kv τ H p,kvs[i]? = some kv->Pv i τ H->H p=none->g (.ref p) τ (upd H p (.tup [kV kv.1,kv.2])) fun τ2 H3=>tc τ2 H3 fun b H4=>if b=true then te τ2 H4 fun y H5=>∃ ys,H5 D=some (.lst ys)/\ys.length<sizeLine/\Pv (i+1) τ2 (upd H5 D (.lst (ys++[y]))) else Pv (i+1) τ2 H4)
    (hd:∀ τ H,Pv kvs.length τ H->Q (.ref D) H):CompG (Iti a o kvs) g tc te D τ H Q:=by
  refine ⟨fun i m τ H=>m=kvs.length-i/\i<=kvs.length/\Pv i τ H,⟨kvs.length,by simp,Nat.zero_le _,h0⟩,?_⟩
  rintro i m τ H ⟨rfl,hi,p⟩
  have q:=hz i τ H hi p
  by_cases hlt:i<kvs.length
  · refine .inr ⟨⟨hlt,q⟩,Pv (i+1),fun τ' H' p'=>⟨kvs.length-(i+1),by omega,rfl,hlt,p'⟩,fun x H2 z=>?_⟩
    obtain ⟨b,kv,rfl,hb,hkv,rfl⟩:=z
    exact hs i kv τ H b hkv p hb
  · have e:i=kvs.length:=by omega
    subst e
    exact .inl ⟨⟨Nat.le_refl _,q⟩,hd τ H p⟩
theorem znj {K:PySem.W.Frag} {H:Hp}:∀ (ns:List Str),DeepAll K H (ns.map V.str) (ns.map PyData.str)
 | []=>.nil
 | _ :: r=>.cons (.str _) (znj r)
theorem zpq {α β:Type} (f:α->β):∀ (l:List α) (j:Nat),(l.map f).eraseIdx j=(l.eraseIdx j).map f
 | [],_=>rfl
 | _ :: _,0=>rfl
 | a :: r,j+1=>by
  show f a :: _=f a :: _
  rw [zpq f r j]
theorem zyy {K:PySem.W.Frag} {H:Hp} {l:Addr} {L:List Str} {x:Str} {Q:VK} (nd:L.Nodup) (hx:x∈L) (n9:L.length<=100) (ok:∀ y∈L,PyData.strOk y=true) (h:H l=some (.lst (L.map V.str))) (q:Q .non (upd H l (.lst ((L.erase x).map V.str)))):zsi K (.ref l) [.str x] H Q:=by
 obtain ⟨j,hj⟩:=List.getElem?_of_mem hx
 have jl:=(List.getElem?_eq_some_iff.mp hj).1
 have es:L.erase x=L.eraseIdx j:=by
  rw [List.erase_eq_eraseIdx_of_idxOf]
  rw [<- (List.getElem?_eq_some_iff.mp hj).2]
  exact (nd.idxOf_getElem j jl)
 have okx:PySem.SeqAt.shaped (.str x)=true:=by
  unfold PySem.SeqAt.shaped
  rw [Bool.and_eq_true,decide_eq_true_eq]
  exact ⟨by simpa only [PyData.canLay0] using ok x hx,by simp [PyData.depth]⟩
 refine ⟨l,L.map V.str,.str x,j,.str x,(L.take (j+1)).map PyData.str,rfl,rfl,h,line_lt (by rw [List.length_map]; omega),by rw [List.length_map]; exact jl,.str _,okx,?_,fun e he=>?_,?_,fun m e hmj he=>?_,?_⟩
 ·rw [<- List.map_take]
  exact znj _
 ·obtain ⟨y,hy,rfl⟩:=List.mem_map.mp he
  unfold PySem.SeqAt.shaped
  rw [Bool.and_eq_true,decide_eq_true_eq]
  exact ⟨by simpa only [PyData.canLay0] using ok y (List.mem_of_mem_take hy),by simp [PyData.depth]⟩
 ·rw [List.getElem?_map,List.getElem?_take,if_pos (by omega),hj]
  simp [PyData.eqv]
 ·rw [List.getElem?_map,List.getElem?_take,if_pos (by omega)] at he
  cases hy:L[m]? with
  | none=>rw [hy] at he; simp at he
  | some y =>
   rw [hy] at he
   have he:PyData.str y=e:=by simpa using he
   subst he
   have ne:y≠x:=fun c=>by
    rw [c] at hy
    have:=(List.getElem?_inj jl nd).mp (hj.trans hy.symm)
    omega
   simp [PyData.eqv]
   exact ne
 ·rw [zpq,<- es]
  exact q
def optS:Option Str->V
 | none=>.non
 | some x=>.str x
structure FR (fs:List (Str×V)) (most:Int) (pm:Addr) (ch:V) (pt pg:Addr) (tu:Option Str):Prop where
 mo:fs.lookup ("most" : Str)=some (.int most)
 me:fs.lookup ("members" : Str)=some (.ref pm)
 ch:fs.lookup ("chosen" : Str)=some ch
 qu:fs.lookup ("queue" : Str)=some (.ref pt)
 re:fs.lookup ("rests" : Str)=some (.ref pg)
 tu:fs.lookup ("turn" : Str)=some (optS tu)
 no:∀ m:Str,¬ m = "most" -> ¬ m = "members" -> ¬ m = "chosen" -> ¬ m = "queue" -> ¬ m = "rests" -> ¬ m = "turn" -> fs.lookup m=none
 len:fs.length<900
theorem FR.mk0 (most:Int) (pm:Addr) (ch:V) (pt pg:Addr):FR (putF "turn" .non (putF "rests" (.ref pg) (putF "queue" (.ref pt) (putF "chosen" ch (putF "members" (.ref pm) (putF "most" (.int most) [])))))) most pm ch pt pg none:=by
 refine ⟨?_,?_,?_,?_,?_,?_,fun m h1 h2 h3 h4 h5 h6=>?_,?_⟩
 ·rw [zag (by decide +kernel),zag (by decide +kernel),zag (by decide +kernel),zag (by decide +kernel),zag (by decide +kernel),zbf]
 ·rw [zag (by decide +kernel),zag (by decide +kernel),zag (by decide +kernel),zag (by decide +kernel),zbf]
 ·rw [zag (by decide +kernel),zag (by decide +kernel),zag (by decide +kernel),zbf]
 ·rw [zag (by decide +kernel),zag (by decide +kernel),zbf]
 ·rw [zag (by decide +kernel),zbf]
 ·rw [zbf]; rfl
 ·rw [zag h6,zag h5,zag h4,zag h3,zag h2,zag h1]; rfl
 ·have a1:=zao (fs:=[]) (f := "most") (v:=.int most)
  have a2:=zao (fs:=putF "most" (.int most) []) (f := "members") (v:=.ref pm)
  have a3:=zao (fs:=putF "members" (.ref pm) (putF "most" (.int most) [])) (f := "chosen") (v:=ch)
  have a4:=zao (fs:=putF "chosen" ch (putF "members" (.ref pm) (putF "most" (.int most) []))) (f := "queue") (v:=.ref pt)
  have a5:=zao (fs:=putF "queue" (.ref pt) (putF "chosen" ch (putF "members" (.ref pm) (putF "most" (.int most) [])))) (f := "rests") (v:=.ref pg)
  have a6:=zao (fs:=putF "rests" (.ref pg) (putF "queue" (.ref pt) (putF "chosen" ch (putF "members" (.ref pm) (putF "most" (.int most) []))))) (f := "turn") (v:=.non)
  simp only [List.length_nil] at a1
  omega
theorem FR.put_ch {fs:List (Str×V)} {most:Int} {pm:Addr} {ch ch':V} {pt pg:Addr} {tu:Option Str} (h:FR fs most pm ch pt pg tu):FR (putF "chosen" ch' fs) most pm ch' pt pg tu:=by
 refine ⟨?_,?_,zbf,?_,?_,?_,fun m h1 h2 h3 h4 h5 h6=>?_,?_⟩
 ·rw [zag (by decide +kernel)]; exact h.mo
 ·rw [zag (by decide +kernel)]; exact h.me
 ·rw [zag (by decide +kernel)]; exact h.qu
 ·rw [zag (by decide +kernel)]; exact h.re
 ·rw [zag (by decide +kernel)]; exact h.tu
 ·rw [zag h3]; exact h.no m h1 h2 h3 h4 h5 h6
 ·rw [zfh h.ch]; exact h.len
theorem FR.put_tu {fs:List (Str×V)} {most:Int} {pm:Addr} {ch:V} {pt pg:Addr} {tu:Option Str} (tu':Option Str) (h:FR fs most pm ch pt pg tu):FR (putF "turn" (optS tu') fs) most pm ch pt pg tu':=by
 refine ⟨?_,?_,?_,?_,?_,zbf,fun m h1 h2 h3 h4 h5 h6=>?_,?_⟩
 ·rw [zag (by decide +kernel)]; exact h.mo
 ·rw [zag (by decide +kernel)]; exact h.me
 ·rw [zag (by decide +kernel)]; exact h.ch
 ·rw [zag (by decide +kernel)]; exact h.qu
 ·rw [zag (by decide +kernel)]; exact h.re
 ·rw [zag h6]; exact h.no m h1 h2 h3 h4 h5 h6
 ·rw [zfh h.tu]; exact h.len
structure Rx (C Cm:Addr) (H:Hp) (a:At5) (most:Int) (nm:Nm) (q:List Str) (rs:Nm) (tu:Option Str) (ch:V):Prop where
 ex:∃ dx fs,H a.p=some (.ins C dx fs)/\FR fs most a.pm ch a.pt a.pg tu
 mb:Mb Cm H a.pm a.ps nm
 hq:H a.pt=some (.lst (q.map V.str))
 hr:H a.pg=some (.dK (kvsOf rs))
 n3:a.pg≠a.ps
 n4:a.p≠a.pm
section
variable {C Cm:Addr} {H H':Hp} {a:At5} {most:Int} {nm nm':Nm} {q q':List Str} {rs rs':Nm} {tu tu':Option Str} {ch ch':V}
theorem Rx.same (h:Rx C Cm H a most nm q rs tu ch) (s:Same H H'):Rx C Cm H' a most nm q rs tu ch:=by
 obtain ⟨dx,fs,h1,h2⟩:=h.ex
 exact ⟨⟨dx,fs,s _ _ h1,h2⟩,h.mb.same s,s _ _ h.hq,s _ _ h.hr,h.n3,h.n4⟩
theorem Rx.set_q (S:Rx C Cm H a most nm q rs tu ch):Rx C Cm (upd H a.pt (.lst (q'.map V.str))) a most nm q' rs tu ch:=by
 obtain ⟨dx,fs,h1,h2⟩:=S.ex
 obtain ⟨dm,fm,m1,m2⟩:=S.mb.ex
 have kp:∀ b o,b≠a.pt->H b=some o->upd H a.pt (.lst (q'.map V.str)) b=some o:=fun b o n e=>by rw [zai n]; exact e
 exact ⟨⟨dx,fs,kp _ _ (ne_of h1 S.hq (by intro z; cases z)) h1,h2⟩,⟨⟨dm,fm,kp _ _ (ne_of m1 S.hq (by intro z; cases z)) m1,m2⟩,kp _ _ (ne_of S.mb.hs S.hq (by intro z; cases z)) S.mb.hs⟩,zac,kp _ _ (ne_of S.hr S.hq (by intro z; cases z)) S.hr,S.n3,S.n4⟩
theorem Rx.set_r (S:Rx C Cm H a most nm q rs tu ch):Rx C Cm (upd H a.pg (.dK (kvsOf rs'))) a most nm q rs' tu ch:=by
 obtain ⟨dx,fs,h1,h2⟩:=S.ex
 obtain ⟨dm,fm,m1,m2⟩:=S.mb.ex
 have kp:∀ b o,b≠a.pg->H b=some o->upd H a.pg (.dK (kvsOf rs')) b=some o:=fun b o n e=>by rw [zai n]; exact e
 exact ⟨⟨dx,fs,kp _ _ (ne_of h1 S.hr (by intro z; cases z)) h1,h2⟩,⟨⟨dm,fm,kp _ _ (ne_of m1 S.hr (by intro z; cases z)) m1,m2⟩,kp _ _ S.n3.symm S.mb.hs⟩,kp _ _ (ne_of S.hq S.hr (by intro z; cases z)) S.hq,zac,S.n3,S.n4⟩
theorem Rx.set_s (S:Rx C Cm H a most nm q rs tu ch):Rx C Cm (upd H a.ps (.dK (kvsOf nm'))) a most nm' q rs tu ch:=by
 obtain ⟨dx,fs,h1,h2⟩:=S.ex
 have g1:=S.mb.hs
 have kp:∀ b o,b≠a.ps->H b=some o->upd H a.ps (.dK (kvsOf nm')) b=some o:=fun b o n e=>by rw [zai n]; exact e
 exact ⟨⟨dx,fs,kp _ _ (ne_of h1 g1 (by intro z; cases z)) h1,h2⟩,S.mb.put,kp _ _ (ne_of S.hq g1 (by intro z; cases z)) S.hq,kp _ _ S.n3 S.hr,S.n3,S.n4⟩
theorem Rx.set_p {dx:Addr} {fs fs':List (Str×V)} (S:Rx C Cm H a most nm q rs tu ch) (h1:H a.p=some (.ins C dx fs)) (ft:FR fs' most a.pm ch' a.pt a.pg tu'):Rx C Cm (upd H a.p (.ins C dx fs')) a most nm q rs tu' ch':=by
 obtain ⟨dm,fm,m1,m2⟩:=S.mb.ex
 have kp:∀ b o,b≠a.p->H b=some o->upd H a.p (.ins C dx fs') b=some o:=fun b o n e=>by rw [zai n]; exact e
 exact ⟨⟨dx,fs',zac,ft⟩,⟨⟨dm,fm,kp _ _ S.n4.symm m1,m2⟩,kp _ _ (ne_of S.mb.hs h1 (by intro z; cases z)) S.mb.hs⟩,kp _ _ (ne_of S.hq h1 (by intro z; cases z)) S.hq,kp _ _ (ne_of S.hr h1 (by intro z; cases z)) S.hr,S.n3,S.n4⟩
theorem Rx.meth {m:Str} {Z:Prop} (S:Rx C Cm H a most nm q rs tu ch) (h:¬ m = "most" /\ ¬ m = "members" /\ ¬ m = "chosen" /\ ¬ m = "queue" /\ ¬ m = "rests" /\ ¬ m = "turn") (z:Z):rMeth C m (.ref a.p) H Z:=by
 obtain ⟨dx,fs,hp,ft⟩:=S.ex
 exact zav hp (ft.no _ h.1 h.2.1 h.2.2.1 h.2.2.2.1 h.2.2.2.2.1 h.2.2.2.2.2) z
theorem Rx.own_l {l:Addr} {xs:List V} (S:Rx C Cm H a most nm q rs tu ch) (ow:Own a H H') (h:H l=some (.lst xs)) (n:l≠a.pt):H' l=some (.lst xs):=by
 obtain ⟨dx,fs,h1,h2⟩:=S.ex
 exact ow _ _ (ne_of h h1 (by intro z; cases z)) (ne_of h S.mb.hs (by intro z; cases z)) n (ne_of h S.hr (by intro z; cases z)) h
end
end L2
namespace Sw
open L2 PySem
theorem zoj (nm:Nm) (x:Str) (s:Int):(putN nm x s).map (·.1)=nm.map (·.1):=by
 unfold putN
 rw [List.map_map]
 refine List.map_congr_left fun p _=>?_
 by_cases h:p.1=x
 ·simp [h]
 ·simp [h]
theorem sh_mem {nm:Nm} {x:Str}:shOf nm x≠none↔x∈nm.map (·.1):=by
 constructor
 ·intro h
  cases e:shOf nm x with
  | none=>exact absurd e h
  | some s=>exact List.mem_map.mpr ⟨_,zpo e,rfl⟩
 ·intro h
  obtain ⟨p,hp,e⟩:=List.mem_map.mp h
  have:(x,p.2)∈nm:=by rw [<- e]; exact hp
  exact zjt this
theorem sh_none {nm:Nm} {x:Str}:shOf nm x=none↔x ∉ nm.map (·.1):=by
 constructor
 ·exact fun h z=>sh_mem.mpr z h
 ·intro h
  cases e:shOf nm x with
  | none=>rfl
  | some s=>exact absurd (sh_mem.mp (by rw [e]; simp)) h
structure RI (most:Int) (nm:Nm) (q:List Str) (rs:Nm) (tu:Option Str):Prop where
 m0:1<=most
 ks:rs.map (·.1)=nm.map (·.1)
 nd:(nm.map (·.1)).Nodup
 pm:(q++tu.toList).Perm (nm.map (·.1))
 sh:∀ x s,shOf nm x=some s->1<=s/\s<=1000000
 bd:∀ x s,shOf nm x=some s->∃ r,shOf rs x=some r/\0-most<r/\r<=s*most/\(0<r->tu=some x)
section
variable {most:Int} {nm:Nm} {q:List Str} {rs:Nm} {tu:Option Str}
theorem RI.nil (h:1<=most):RI most [] [] [] none:=⟨h,rfl,.nil,.refl _,fun x s e=>(by cases e),fun x s e=>(by cases e)⟩
theorem RI.put (h:RI most nm q rs tu) {x:Str} {s:Int} (hx:shOf nm x=none) (s0:1<=s) (s1:s<=1000000):RI most (nm++[(x,s)]) (q++[x]) (rs++[(x,0)]) tu:=by
 have hr:shOf rs x=none:=by rw [sh_none,h.ks,<- sh_none]; exact hx
 refine ⟨h.m0,?_,?_,?_,fun y t e=>?_,fun y t e=>?_⟩
 ·rw [List.map_append,List.map_append,h.ks]; rfl
 ·rw [List.map_append]
  refine List.nodup_append.mpr ⟨h.nd,by simp,fun a ha b hb=>?_⟩
  have:b=x:=by simpa using hb
  subst this
  exact fun z=>sh_none.mp hx (z ▸ ha)
 ·rw [List.map_append]
  have:=h.pm.append_right [x]
  refine List.Perm.trans ?_ this
  rw [List.append_assoc,List.append_assoc]
  exact List.Perm.append_left _ List.perm_append_comm
 ·rw [zhg hx] at e
  split at e
  ·cases e; exact ⟨s0,s1⟩
  ·exact h.sh y t e
 ·rw [zhg hx] at e
  rw [zhg hr]
  have m0:=h.m0
  split at e
  ·rename_i c
   cases e
   rw [if_pos c]
   have:=Int.mul_le_mul s0 h.m0 (by omega) (by omega)
   exact ⟨0,rfl,by omega,by omega,fun z=>absurd z (by decide)⟩
  ·rename_i c
   rw [if_neg c]
   exact h.bd y t e
theorem RI.ends (h:RI most nm q rs tu) {x:Str} {r:Int} (ht:tu=some x) (hr:shOf rs x=some r):RI most nm (q++[x]) (putN rs x (if 0<r then 0 else r)) none:=by
 subst ht
 have m0:=h.m0
 refine ⟨h.m0,by rw [zoj,h.ks],h.nd,by rw [Option.toList_none,List.append_nil]; exact h.pm,h.sh,fun y t e=>?_⟩
 obtain ⟨r',a1,a2,a3,a4⟩:=h.bd y t e
 obtain ⟨t1,t2⟩:=h.sh y t e
 rw [zjd]
 by_cases c:y=x
 ·subst c
  rw [if_pos rfl,hr]
  rw [hr] at a1
  cases a1
  have:=Int.mul_le_mul t1 h.m0 (by omega) (by omega)
  refine ⟨if 0<r then 0 else r,rfl,by split <;> omega,by split <;> omega,fun z=>?_⟩
  exfalso
  split at z <;> omega
 ·rw [if_neg c]
  refine ⟨r',a1,a2,a3,fun z=>?_⟩
  have:=a4 z
  exact absurd (Option.some.inj this).symm c
theorem RI.begins (h:RI most nm q rs none) {x:Str} {r s:Int} (hq:x∈q) (hr:shOf rs x=some r) (hs:shOf nm x=some s):RI most nm (q.erase x) (putN rs x (r+s*most)) (some x)/\0<r+s*most:=by
 have m0:=h.m0
 obtain ⟨r',a1,a2,a3,a4⟩:=h.bd x s hs
 rw [hr] at a1
 cases a1
 have le:r<=0:=by
  rcases Int.lt_or_le 0 r with z | z
  ·exact absurd (a4 z) (by simp)
  ·exact z
 obtain ⟨t1,t2⟩:=h.sh x s hs
 have sm:=Int.mul_le_mul_of_nonneg_right t1 (show 0<=most by omega)
 refine ⟨⟨h.m0,by rw [zoj,h.ks],h.nd,?_,h.sh,fun y t e=>?_⟩,by omega⟩
 ·have pm:=h.pm
  rw [Option.toList_none,List.append_nil] at pm
  refine List.Perm.trans ?_ pm
  show (q.erase x++[x]).Perm q
  exact (List.perm_append_comm).trans (List.perm_cons_erase hq).symm
 ·obtain ⟨r',b1,b2,b3,b4⟩:=h.bd y t e
  rw [zjd]
  by_cases c:y=x
  ·subst c
   rw [hs] at e
   cases e
   rw [if_pos rfl,hr]
   exact ⟨r+s*most,rfl,by omega,by omega,fun _=>rfl⟩
  ·rw [if_neg c]
   refine ⟨r',b1,b2,b3,fun z=>absurd (b4 z) (by simp)⟩
theorem RI.pays (h:RI most nm q rs tu) {x:Str} {r len:Int} (ht:tu=some x) (hr:shOf rs x=some r) (r0:0<r) (l0:1<=len) (l1:len<=most):RI most nm q (putN rs x (r-len)) tu:=by
 refine ⟨h.m0,by rw [zoj,h.ks],h.nd,h.pm,h.sh,fun y t e=>?_⟩
 obtain ⟨r',b1,b2,b3,b4⟩:=h.bd y t e
 rw [zjd]
 by_cases c:y=x
 ·subst c
  rw [if_pos rfl,hr]
  rw [hr] at b1
  cases b1
  exact ⟨r-len,rfl,by omega,by omega,fun _=>ht⟩
 ·rw [if_neg c]
  exact ⟨r',b1,b2,b3,b4⟩
end
end Sw
namespace L2
open PySem PySem.Spec PyProof.Rows
section
variable {X:Cx}
end
section
variable {X:Cx}
end
def tOrE (t1 t2:TE):TE:=fun σ H Q=>t1 σ H Q\/t2 σ H Q
section
variable {X:Cx}
theorem znk {e:Expr} {t1 t2:TE} (h1:PE X e t1) (h2:PE X e t2):PE X e (tOrE t1 t2):=fun pins s σ H Q I h=>h.elim (h1 pins s σ H Q I) (h2 pins s σ H Q I)
end
section
variable {X:Cx}
end
def sg (c:Nat):Str:=⟨#[c]⟩
def Its (z:Str):It:=⟨fun i _=>i<z.length,fun i H x H'=>H'=H/\∃ c,z.cps.toList[i]? = some c/\x = .str (sg c),fun i _=>z.length<=i⟩
theorem zud {P:Program} {w:World} {K:PySem.W.Frag} {tg:Expr} (it:Addr) (z:Str) (t:Tok) (ty:String) (hty:ty = "str_ascii_iterator" \/ ty = "str_iterator"):Turn P w K tg (Its z) [it] it (fun i h=>h.IsStrIter it ty z t i) where
 mem:=by simp
 obj:=fun i h st b hb=>by
  have e:b=it:=by simpa using hb
  subst e
  obtain ⟨o,e,c,d⟩:=st
  exact ⟨o,e,fun v z=>by rw [d] at z; cases z⟩
 keep:=fun i h h' st k=>by
  obtain ⟨o,e,r⟩:=st
  exact ⟨o,k it (by simp) o e,r⟩
 item:=by
  intro X hP hw hK hc i pins s σ H E I hf st hg
  subst hP hw hK
  obtain ⟨f0,f1,f2,f3,f4,f5⟩:=hf it (by simp)
  have hg:i<z.cps.size:=hg
  have W:Walks X.prog X.w X.A it [it] [it] z.cps.size (SignAt z) (fun i h=>h.IsStrIter it ty z t i):=by
   rcases hty with rfl | rfl
   ·exact Walks.strAscii (I.ok.hd hc) it z t
   ·exact Walks.strWide (I.ok.hd hc) it z t
  refine W.item i s _ _ hg st fun v h' tk hv st' kk=>?_
  obtain ⟨c,u,hc1,rfl⟩:=hv
  have I1:Inv X pins σ H { s with heap:=h',toks:=tk }:=I.turned (fun b o hb e=>kk b o (by simpa using hb) e) f0 f1 f3 f4 f5
  obtain ⟨o,e,c1,d⟩:=id st'
  refine ⟨_,rfl,go_of (s:={ s with heap:=h',toks:=tk }) e c1 d (by rcases hty with rfl | rfl <;> decide) ⟨.str (sg c),H,I1,⟨u,rfl⟩,⟨rfl,c,by rw [Array.getElem?_toList]; exact hc1,rfl⟩,st',fun b hb=>(hf b hb).1⟩⟩
 done:=by
  intro X hP hw hK hc i pins s σ H E I hf st hg
  subst hP hw hK
  obtain ⟨f0,f1,f2,f3,f4,f5⟩:=hf it (by simp)
  have hg:z.cps.size<=i:=hg
  rcases hty with rfl | rfl
  ·exact wpAny_pyNext_ascii_end (I.ok.hd hc) st (by simpa using hg) fun h' eb=>⟨rfl,I.turned (t':=s.toks) (fun b o hb e=>eb b o hb e) f0 f1 f3 f4 f5⟩
  ·exact wpAny_pyNext_wide_end (I.ok.hd hc) st (by simpa using hg) fun h' eb=>⟨rfl,I.turned (t':=s.toks) (fun b o hb e=>eb b o hb e) f0 f1 f3 f4 f5⟩
 self:=fun _ _ _ _ _ st h=>by
  rcases hty with rfl | rfl
  ·exact wpAny_pyIter_striter_ascii st h
  ·exact wpAny_pyIter_striter_wide st h
section
variable {X:Cx} {tg:Expr}
def iStr (tl:TE):TI:=fun σ H R=>tl σ H fun x H1=>∃ z,x = .str z/\R (Its z) H1
theorem zyz {l:Expr} {tl:TE} (hl:PE X l tl):PI X tg l (iStr tl):=by
 intro pins s σ H R I h
 refine thn (hl pins s σ H _ I h) fun v s1 ⟨x,H1,I1,r1,q1⟩=>?_
 obtain ⟨z,rfl,q⟩:=q1
 obtain ⟨t,rfl⟩:=r1
 have fin:∀ ty,(ty = "str_ascii_iterator" \/ ty = "str_iterator")->PIE X pins σ tg R (.ref s1.heap.objs.size) { s1 with heap:=s1.heap.push { cls:=.type ty,data:=.fields #[.str z t,.int 0 0] } }:=fun ty hty=>by
  refine ⟨s1.heap.objs.size,[s1.heap.objs.size],_,_,H1,rfl,I1.kept (t':=s1.toks) fun b o e=>Heap.get?_push_of_some _ e,zud _ z t ty hty,⟨_,Heap.get?_push_size _ rfl,rfl,rfl⟩,fun b hb=>?_,q⟩
  have e:b=s1.heap.objs.size:=by simpa using hb
  subst e
  exact I1.fpOk (Nat.le_refl _) (I1.hok.fresh (Nat.le_refl _))
 cases ha:z.cps.all (· < 128)
 ·exact wpAny_pyIter_wide ha (fin _ (.inr rfl))
 ·exact wpAny_pyIter_ascii ha (fin _ (.inl rfl))
end
theorem zue {z:Str} {g:TG} {tc:TT} {te:TE} {D:Addr} {τ:St} {H:Hp} {Q:VK} (Pv:Nat->St->Hp->Prop) (h0:Pv 0 τ H)
    (hs:∀ i c τ H,z.cps.toList[i]? = some c->Pv i τ H->g (.str (sg c)) τ H fun τ2 H3=>tc τ2 H3 fun b H4=>if b=true then te τ2 H4 fun y H5=>∃ ys,H5 D=some (.lst ys)/\ys.length<sizeLine/\Pv (i+1) τ2 (upd H5 D (.lst (ys++[y]))) else Pv (i+1) τ2 H4)
    (hd:∀ τ H,Pv z.length τ H->Q (.ref D) H):CompG (Its z) g tc te D τ H Q:=by
  refine ⟨fun i m τ H=>m=z.length-i/\i<=z.length/\Pv i τ H,⟨z.length,by simp,Nat.zero_le _,h0⟩,?_⟩
  rintro i m τ H ⟨rfl,hi,p⟩
  by_cases hlt:i<z.length
  · refine .inr ⟨hlt,Pv (i+1),fun τ' H' p'=>⟨z.length-(i+1),by omega,rfl,hlt,p'⟩,fun x H' y=>?_⟩
    obtain ⟨e,c,hc,y⟩:=y
    subst e y
    exact hs i c τ H' hc p
  · have:i=z.length:=by omega
    subst this
    exact .inl ⟨Nat.le_refl _,hd _ _ p⟩
section
variable {X:Cx}
def rInS:R2:=fun x y H Q=>∃ z w,x = .str z/\y = .str w/\Q (.bl (Txt.contains w z)) H
theorem zza:OpR X (compareOp .In) rInS:=by
 intro pins s σ H x y v u Q I rx ry h
 obtain ⟨z,w,rfl,rfl,q⟩:=h
 obtain ⟨t,rfl⟩:=rx
 obtain ⟨t',rfl⟩:=ry
 exact SB.contains ⟨.bl _,H,I,rfl,q⟩
end
theorem zgh {X:Cx} {x z:Str} {pos:Pos} (hg:Gl X x) (hm:∃ t,X.mg x=some (.str z t)) (hd:(x == ("__debug__" : Str))=false:=by decide):PE X (.Name x pos) (tC (.str z)):=by
 obtain ⟨t,hm⟩:=hm
 exact zlo hg hm ⟨t,rfl⟩ hd
section
variable {M:Model} {A:Around} {E:Value->Shared->Prop} {s:Shared} {B:Heap} {env:Env} {outer:List Env} {L e:Addr} {cls:Value} {dct:Option Addr}
end
section
variable {X:Cx} {pins:List (Addr×Obj)} {σ:St} {H H':Hp} {s:Shared} {h':Heap}
end
section
variable {P:Program} {w:World} {X:Cx} {scope:Scope} {cl:List (Str×Addr)} {N:List Str} {Ek:XH} {fp:List Addr} {s s':Shared} {H H':Hp} {pins:List (Addr×Obj)} {τ:St}
end
section
variable {P:Program} {w:World} {K:PySem.W.Frag} {mg:Str->Option Value} {base:Heap} {N:List Str} {qual:Str} {sc:Scope} {f:Addr} {cd:Value} {A:Around} {outer:List Env} {s₀:Shared} {H₀:Hp} {E:XK}
end
end L2
namespace Sw
open PySem L2
def figs:Str:=Str.ofString "0123456789"
theorem in_str (x:Str) (c:Nat):Txt.contains x (sg c)=decide (c∈x.cps.toList):=StrLaws.found_one x c
theorem len_list (x:Str):x.cps.toList.length=x.length:=Array.length_toList
def zvj (z:Str):Prop:=z.cps.toList[0]? = some 48/\1<z.length
def Digs (z:Str):Prop:=∀ c∈z.cps.toList,c∈figs.cps.toList
instance (z:Str):Decidable (zvj z):=by unfold zvj; exact inferInstance
instance (z:Str):Decidable (Digs z):=by unfold Digs; exact inferInstance
def N13 (n:Int):Prop:=0<=n/\n<10000000000000
def N4 (q:Q4):Prop:=N13 q.1/\N13 q.2.1/\N13 q.2.2.1/\N13 q.2.2.2
end Sw
namespace PySem
open Sem (wp)
open Builtin Builtin.Str Builtin.Int
namespace F
end F
section
variable {prog:Program} {w:World} {A:Around} {E:Value->Shared->Prop} {s:Shared} {I:Addr} {fp wr:List Addr} {G:Array GenState->Array GenState->Prop} {n:Nat} {P:Nat->Value->Prop} {St:Nat->Shared->Prop}
end
end PySem
namespace L2
open PySem PySem.Spec PyProof.Rows
section
variable {X:Cx}
end
section
variable {X:Cx}
end
end L2
namespace Sw
open PySem L2 PyProof.Rows
def Below (h:Str):Prop:=h.cps.toList[0]? = some 45
instance (h:Str):Decidable (Below h):=by unfold Below; exact inferInstance
end Sw
namespace L2
open PySem PySem.Spec PyProof.Rows
end L2
namespace Sw
open PySem L2 PyProof.Rows
abbrev dg (n:Nat):List Char:=Nat.toDigits 10 n
end Sw
namespace L2
open PySem PySem.Spec PyProof.Rows
section
variable {X:Cx}
end
end L2
namespace L2
open PySem PySem.Spec PyProof.Rows PySem.MeetsSeq
section
variable {X:Cx}
end
end L2
namespace L2
open PySem PySem.Spec PyProof.Rows
section
variable {X:Cx}
end
section
variable {X:Cx}
end
structure Gnm (nm:Nm):Prop where
 nd:(nm.map (·.1)).Nodup
 sh:∀ x s,shOf nm x=some s->1<=s/\s<=1000000
 ok:∀ y∈nm.map (·.1),PyData.strOk y=true
theorem Gnm.nil:Gnm []:=⟨.nil,fun x s e=>by (cases e),fun y h=>absurd h List.not_mem_nil⟩
theorem Gnm.put {nm:Nm} (h:Gnm nm) {x:Str} {s:Int} (hx:shOf nm x=none) (s0:1<=s) (s1:s<=1000000) (ok:PyData.strOk x=true):Gnm (nm++[(x,s)]):=by
 refine ⟨?_,fun y t e=>?_,fun y hy=>?_⟩
 ·rw [List.map_append]
  exact List.nodup_append.mpr ⟨h.nd,by simp,fun y hy z hz=>by
   have:z=x:=by simpa using hz
   rw [this]
   intro e
   exact (Sw.sh_none.mp hx) (e ▸ hy)⟩
 ·rw [zhg hx] at e
  split at e
  ·cases e; exact ⟨s0,s1⟩
  ·exact h.sh y t e
 ·rw [List.map_append] at hy
  rcases List.mem_append.mp hy with z | z
  ·exact h.ok y z
  ·have:y=x:=by simpa using z
   rw [this]; exact ok
inductive CSt
 | st (nm:Nm) (tg gs:Str->Option Rat) (ck:Rat) (ch:V) (N:Nat)
 | rd (nm:Nm) (q:List Str) (rs:Nm) (tu:Option Str) (ch:V)
def CSt.nm:CSt->Nm
 | .st nm _ _ _ _ _=>nm
 | .rd nm _ _ _ _=>nm
def CSt.sz:CSt->Nat
 | .st _ _ _ _ _ N=>N
 | .rd nm _ _ _ _=>nm.length
def CSt.Ok (m:Int):CSt->Prop
 | .st nm tg gs _ _ _=>Gnm nm/\∀ x,shOf nm x≠none->∃ t g,tg x=some t/\gs x=some g
 | .rd nm q rs tu _=>Gnm nm/\Sw.RI m nm q rs tu
theorem CSt.Ok.gnm {m:Int}:∀ {c:CSt},c.Ok m->Gnm c.nm
 | .st ..,h=>h.1
 | .rd ..,h=>h.1
def CSt.put (x:Str) (s:Int):CSt->CSt
 | .st nm tg gs ck ch N=>.st (nm++[(x,s)]) (setS tg x 0) (setS gs x 0) ck ch (N+3)
 | .rd nm q rs tu ch=>.rd (nm++[(x,s)]) (q++[x]) (rs++[(x,0)]) tu ch
def CSt.new (rounds:Bool):CSt:=if rounds then .rd [] [] [] none .non else .st [] (fun _=>none) (fun _=>none) 0 .non 0
theorem CSt.nm_put {x:Str} {s:Int} (c:CSt):(c.put x s).nm=c.nm++[(x,s)]:=by cases c <;> rfl
theorem CSt.nm_new (b:Bool):(CSt.new b).nm = []:=by cases b <;> rfl
def ChS (cS cR cM:Addr) (H:Hp) (a:At5) (m:Int):CSt->Prop
 | .st nm tg gs ck ch N=>Sx cS cM H a m nm tg gs ck ch N
 | .rd nm q rs tu ch=>Rx cR cM H a m nm q rs tu ch
def five (a:At5):List Addr:=[a.p,a.pm,a.ps,a.pt,a.pg]
theorem mem_five {a:At5} {b:Addr}:b∈five a↔b=a.p\/b=a.pm\/b=a.ps\/b=a.pt\/b=a.pg:=by
 unfold five; simp
section
variable {cS cR cM:Addr} {H H':Hp} {a:At5} {m:Int} {c:CSt}
theorem ChS.keep (h:ChS cS cR cM H a m c) (e:∀ b o,(b∈five a\/∃ xs,H b=some (.tup xs))->H b=some o->H' b=some o):ChS cS cR cM H' a m c:=by
 have e1:∀ b o,(b=a.p\/b=a.pm\/b=a.ps\/b=a.pt\/b=a.pg\/∃ xs,H b=some (.tup xs))->H b=some o->H' b=some o:=fun b o hb=>e b o (by
  rcases hb with z | z | z | z | z | z
  ·exact .inl (mem_five.mpr (.inl z))
  ·exact .inl (mem_five.mpr (.inr (.inl z)))
  ·exact .inl (mem_five.mpr (.inr (.inr (.inl z))))
  ·exact .inl (mem_five.mpr (.inr (.inr (.inr (.inl z)))))
  ·exact .inl (mem_five.mpr (.inr (.inr (.inr (.inr z)))))
  ·exact .inr z)
 cases c with
 | st nm tg gs ck ch N =>
  have S:Sx cS cM H a m nm tg gs ck ch N:=h
  obtain ⟨dx,fs,pr,h1,h2,h3⟩:=S.ex
  obtain ⟨dm,fm,m1,m2,m3,m4⟩:=S.mb.ex
  exact ⟨⟨dx,fs,pr,e1 _ _ (.inl rfl) h1,h2,e1 _ _ (.inr (.inr (.inr (.inr (.inr ⟨_,h3⟩))))) h3⟩,⟨⟨dm,fm,e1 _ _ (.inr (.inl rfl)) m1,m2,m3,m4⟩,e1 _ _ (.inr (.inr (.inl rfl))) S.mb.hs⟩,
   S.dt.keep fun b o hb=>e1 b o (hb.elim (fun z=>.inr (.inr (.inr (.inl z)))) fun z=>.inr (.inr (.inr (.inr (.inr z))))),S.dg.keep fun b o hb=>e1 b o (hb.elim (fun z=>.inr (.inr (.inr (.inr (.inl z))))) fun z=>.inr (.inr (.inr (.inr (.inr z))))),S.nl,S.n1,S.n2,S.n3,S.n4⟩
 | rd nm q rs tu ch =>
  have S:Rx cR cM H a m nm q rs tu ch:=h
  obtain ⟨dx,fs,h1,h2⟩:=S.ex
  obtain ⟨dm,fm,m1,m2,m3,m4⟩:=S.mb.ex
  exact ⟨⟨dx,fs,e1 _ _ (.inl rfl) h1,h2⟩,⟨⟨dm,fm,e1 _ _ (.inr (.inl rfl)) m1,m2,m3,m4⟩,e1 _ _ (.inr (.inr (.inl rfl))) S.mb.hs⟩,e1 _ _ (.inr (.inr (.inr (.inl rfl)))) S.hq,e1 _ _ (.inr (.inr (.inr (.inr (.inl rfl))))) S.hr,S.n3,S.n4⟩
theorem ChS.at (h:ChS cS cR cM H a m c) {b:Addr} (hb:b∈five a):∃ o,H b=some o/\∀ xs,o≠.tup xs:=by
 cases c with
 | st nm tg gs ck ch N =>
  have S:Sx cS cM H a m nm tg gs ck ch N:=h
  obtain ⟨dx,fs,pr,h1,h2,h3⟩:=S.ex
  obtain ⟨dm,fm,m1,_⟩:=S.mb.ex
  obtain ⟨kt,t1,_⟩:=S.dt.ex
  obtain ⟨kg,g1,_⟩:=S.dg.ex
  rcases mem_five.mp hb with z | z | z | z | z <;> subst z
  ·exact ⟨_,h1,by intro xs y; cases y⟩
  ·exact ⟨_,m1,by intro xs y; cases y⟩
  ·exact ⟨_,S.mb.hs,by intro xs y; cases y⟩
  ·exact ⟨_,t1,by intro xs y; cases y⟩
  ·exact ⟨_,g1,by intro xs y; cases y⟩
 | rd nm q rs tu ch =>
  have S:Rx cR cM H a m nm q rs tu ch:=h
  obtain ⟨dx,fs,h1,h2⟩:=S.ex
  obtain ⟨dm,fm,m1,_⟩:=S.mb.ex
  rcases mem_five.mp hb with z | z | z | z | z <;> subst z
  ·exact ⟨_,h1,by intro xs y; cases y⟩
  ·exact ⟨_,m1,by intro xs y; cases y⟩
  ·exact ⟨_,S.mb.hs,by intro xs y; cases y⟩
  ·exact ⟨_,S.hq,by intro xs y; cases y⟩
  ·exact ⟨_,S.hr,by intro xs y; cases y⟩
end
theorem ChS.nodup {cS cR cM:Addr} {H:Hp} {a:At5} {m:Int} {c:CSt} (h:ChS cS cR cM H a m c):(five a).Nodup:=by
 have go:a.p≠a.pm->a.p≠a.ps->a.p≠a.pt->a.p≠a.pg->a.pm≠a.ps->a.pm≠a.pt->a.pm≠a.pg->a.ps≠a.pt->a.ps≠a.pg->a.pt≠a.pg->(five a).Nodup:=by
  intro h1 h2 h3 h4 h5 h6 h7 h8 h9 h10
  unfold five
  simp [h1,h2,h3,h4,h5,h6,h7,h8,h9,h10]
 cases c with
 | st nm tg gs ck ch N =>
  have S:Sx cS cM H a m nm tg gs ck ch N:=h
  obtain ⟨dx,fs,pr,h1,h2,h3⟩:=S.ex
  obtain ⟨dm,fm,m1,_⟩:=S.mb.ex
  obtain ⟨kt,t1,_⟩:=S.dt.ex
  obtain ⟨kg,g1,_⟩:=S.dg.ex
  exact go S.n4 (ne_of h1 S.mb.hs (by intro z; cases z)) (ne_of h1 t1 (by intro z; cases z)) (ne_of h1 g1 (by intro z; cases z)) (ne_of m1 S.mb.hs (by intro z; cases z)) (ne_of m1 t1 (by intro z; cases z)) (ne_of m1 g1 (by intro z; cases z)) S.n2.symm S.n3.symm S.n1
 | rd nm q rs tu ch =>
  have S:Rx cR cM H a m nm q rs tu ch:=h
  obtain ⟨dx,fs,h1,h2⟩:=S.ex
  obtain ⟨dm,fm,m1,_⟩:=S.mb.ex
  exact go S.n4 (ne_of h1 S.mb.hs (by intro z; cases z)) (ne_of h1 S.hq (by intro z; cases z)) (ne_of h1 S.hr (by intro z; cases z)) (ne_of m1 S.mb.hs (by intro z; cases z)) (ne_of m1 S.hq (by intro z; cases z)) (ne_of m1 S.hr (by intro z; cases z)) (ne_of S.mb.hs S.hq (by intro z; cases z)) S.n3.symm (ne_of S.hq S.hr (by intro z; cases z))
section
variable {m:Int} {c:CSt} {x:Str} {s:Int}
theorem CSt.Ok.put (h:c.Ok m) (hx:shOf c.nm x=none) (s0:1<=s) (s1:s<=1000000) (ok:PyData.strOk x=true):(c.put x s).Ok m:=by
 cases c with
 | st nm tg gs ck ch N =>
  refine ⟨h.1.put hx s0 s1 ok,fun y hy=>?_⟩
  unfold setS
  by_cases e:y=x
  ·rw [if_pos e,if_pos e]; exact ⟨_,_,rfl,rfl⟩
  ·have hx:shOf nm x=none:=hx
   rw [zhg hx,if_neg e] at hy
   rw [if_neg e,if_neg e]; exact h.2 y hy
 | rd nm q rs tu ch=>exact ⟨h.1.put hx s0 s1 ok,h.2.put hx s0 s1⟩
theorem CSt.Ok.new (h:1<=m) (b:Bool):(CSt.new b).Ok m:=by
 cases b with
 | true=>exact ⟨Gnm.nil,.nil h⟩
 | false=>exact ⟨Gnm.nil,fun y hy=>absurd rfl hy⟩
end
def Deed (S:List Addr) (H H':Hp):Prop:=∀ b o,b ∉ S->H b=some o->H' b=some o
theorem Same.deed {S:List Addr} {H H':Hp} (h:Same H H'):Deed S H H':=fun b o _ e=>h b o e
theorem Deed.trans {S:List Addr} {H H1 H2:Hp} (x:Deed S H H1) (y:Deed S H1 H2):Deed S H H2:=fun b o n e=>y b o n (x b o n e)
theorem Deed.mono {S S':List Addr} {H H1:Hp} (x:Deed S H H1) (h:∀ b∈S,b∈S'):Deed S' H H1:=fun b o n e=>x b o (fun z=>n (h b z)) e
theorem Own.deed {a:At5} {H H':Hp} (w:Own a H H'):Deed (five a) H H':=fun b o n e=>by
 rw [mem_five] at n
 exact w b o (fun z=>n (.inl z)) (fun z=>n (.inr (.inr (.inl z)))) (fun z=>n (.inr (.inr (.inr (.inl z))))) (fun z=>n (.inr (.inr (.inr (.inr z))))) e
theorem zhh {S:List Addr} {H:Hp} {b:Addr} {o:HO} (h:b∈S):Deed S H (upd H b o):=fun c u n e=>by
 have:c≠b:=fun z=>n (by rw [z]; exact h)
 rw [zai this]; exact e
structure FN (fs:List (Str×V)) (ab ch rm bk:V) (ql:Addr):Prop where
 ab:fs.lookup ("above" : Str)=some ab
 ch:fs.lookup ("chooser" : Str)=some ch
 rm:fs.lookup ("room" : Str)=some rm
 bk:fs.lookup ("bucket" : Str)=some bk
 qu:fs.lookup ("queue" : Str)=some (.ref ql)
 no:∀ m:Str,¬ m = "above" -> ¬ m = "chooser" -> ¬ m = "room" -> ¬ m = "bucket" -> ¬ m = "queue" -> fs.lookup m=none
 len:fs.length<900
theorem FN.mk0 (ab ch rm bk:V) (ql:Addr):FN (putF "queue" (.ref ql) (putF "bucket" bk (putF "room" rm (putF "chooser" ch (putF "above" ab []))))) ab ch rm bk ql:=by
 refine ⟨?_,?_,?_,?_,?_,fun m h1 h2 h3 h4 h5=>?_,?_⟩
 ·rw [zag (by decide +kernel),zag (by decide +kernel),zag (by decide +kernel),zag (by decide +kernel),zbf]
 ·rw [zag (by decide +kernel),zag (by decide +kernel),zag (by decide +kernel),zbf]
 ·rw [zag (by decide +kernel),zag (by decide +kernel),zbf]
 ·rw [zag (by decide +kernel),zbf]
 ·rw [zbf]
 ·rw [zag h5,zag h4,zag h3,zag h2,zag h1]; rfl
 ·have l1:=zao (fs:=[]) (f := "above") (v:=ab)
  have l2:=zao (fs:=putF "above" ab []) (f := "chooser") (v:=ch)
  have l3:=zao (fs:=putF "chooser" ch (putF "above" ab [])) (f := "room") (v:=rm)
  have l4:=zao (fs:=putF "room" rm (putF "chooser" ch (putF "above" ab []))) (f := "bucket") (v:=bk)
  have l5:=zao (fs:=putF "bucket" bk (putF "room" rm (putF "chooser" ch (putF "above" ab [])))) (f := "queue") (v:=.ref ql)
  simp only [List.length_nil] at l1
  omega
structure BkS where
 d:Int
 r:Rat
 s:Int
 l:Rat
structure ND where
 nm:Str
 p:Addr
 ql:Addr
 ab:Option Str
 ch:Option (At5×CSt)
 rm:V
 bk:Option (Addr×BkS)
 ps:List Addr
 qu:List D2
structure Cl where
 n:Addr
 s:Addr
 r:Addr
 m:Addr
 b:Addr
 t:Addr
def chF:Option (At5×CSt)->List Addr
 | none=>[]
 | some c=>five c.1
def bkF:Option (Addr×BkS)->List Addr
 | none=>[]
 | some b=>[b.1]
def ND.foot (x:ND):List Addr:=x.p :: x.ql :: (chF x.ch++bkF x.bk)
def chV:Option (At5×CSt)->V
 | none=>.non
 | some c=>.ref c.1.p
def bkV:Option (Addr×BkS)->V
 | none=>.non
 | some b=>.ref b.1
structure NdOk (C:Cl) (H:Hp) (m:Int) (x:ND):Prop where
 ex:∃ dx fs,H x.p=some (.ins C.n dx fs)/\FN fs (optS x.ab) (chV x.ch) x.rm (bkV x.bk) x.ql
 qu:Gos H x.ql x.ps x.qu
 ch:∀ c,x.ch=some c->ChS C.s C.r C.m H c.1 m c.2
 bk:∀ b,x.bk=some b->Bk C.b H b.1 b.2.d b.2.r b.2.s b.2.l
section
variable {C:Cl} {H H':Hp} {m:Int} {x:ND}
theorem NdOk.keep (h:NdOk C H m x) (e:∀ b o,(b∈x.foot\/∃ xs,H b=some (.tup xs))->H b=some o->H' b=some o):NdOk C H' m x:=by
 obtain ⟨dx,fs,h1,h2⟩:=h.ex
 refine ⟨⟨dx,fs,e _ _ (.inl (List.mem_cons_self ..)) h1,h2⟩,⟨e _ _ (.inl (List.mem_cons_of_mem _ (List.mem_cons_self ..))) h.qu.hl,h.qu.r.keep fun p z hp=>e _ _ (.inr ⟨_,hp⟩) hp⟩,fun c hc=>?_,fun b hb=>?_⟩
 ·refine (h.ch c hc).keep fun b o hb=>e b o (hb.imp (fun z=>?_) id)
  refine List.mem_cons_of_mem _ (List.mem_cons_of_mem _ (List.mem_append.mpr (.inl ?_)))
  rw [hc]; exact z
 ·obtain ⟨dx',fs',pr,pl,b1,b2,b3,b4⟩:=(h.bk b hb).ex
  refine ⟨dx',fs',pr,pl,e _ _ (.inl ?_) b1,b2,e _ _ (.inr ⟨_,b3⟩) b3,e _ _ (.inr ⟨_,b4⟩) b4⟩
  refine List.mem_cons_of_mem _ (List.mem_cons_of_mem _ (List.mem_append.mpr (.inr ?_)))
  rw [hb]; exact List.mem_singleton.mpr rfl
theorem NdOk.at (h:NdOk C H m x) {b:Addr} (hb:b∈x.foot):∃ o,H b=some o/\∀ xs,o≠.tup xs:=by
 unfold ND.foot at hb
 rcases List.mem_cons.mp hb with z | hb
 ·obtain ⟨dx,fs,h1,h2⟩:=h.ex
  subst z
  exact ⟨_,h1,by intro xs y; cases y⟩
 rcases List.mem_cons.mp hb with z | hb
 ·subst z
  exact ⟨_,h.qu.hl,by intro xs y; cases y⟩
 rcases List.mem_append.mp hb with z | z
 ·cases hc:x.ch with
  | none=>rw [hc] at z; cases z
  | some c=>rw [hc] at z; exact (h.ch c hc).at z
 ·cases hc:x.bk with
  | none=>rw [hc] at z; cases z
  | some c =>
   rw [hc] at z
   obtain ⟨dx',fs',pr,pl,b1,_⟩:=(h.bk c hc).ex
   have:b=c.1:=List.mem_singleton.mp z
   subst this
   exact ⟨_,b1,by intro xs y; cases y⟩
theorem NdOk.deed {S:List Addr} (h:NdOk C H m x) (d:Deed S H H') (f:∀ b∈x.foot,b ∉ S) (nt:∀ b∈S,∀ xs,H b≠some (.tup xs)):NdOk C H' m x :=
 h.keep fun b o hb e=>d b o (hb.elim (fun z=>f b z) fun ⟨xs,z⟩ y=>nt b y xs z) e
end
theorem NdOk.new {C:Cl} {H3 H4:Hp} {m:Int} {nm:Str} {x dx ql:Addr} {fs:List (Str×V)} {ab:Option Str} {ch:Option (At5×CSt)} {rm:V} (hx:H3 x=none) (hd:H3 dx=none) (bt:But x (upd (upd H3 dx (.own x)) x (.ins C.n dx [])) H4) (hq:upd (upd H3 dx (.own x)) x (.ins C.n dx []) ql=none) (h1:H4 x=some (.ins C.n dx fs)) (h2:FN fs (optS ab) (chV ch) rm .non ql) (h3:H4 ql=some (.lst [])) (hc:∀ c,ch=some c->ChS C.s C.r C.m H3 c.1 m c.2) :
    Same H3 H4/\NdOk C H4 m ⟨nm,x,ql,ab,ch,rm,none,[],[]⟩/\(ND.foot ⟨nm,x,ql,ab,ch,rm,none,[],[]⟩).Nodup/\H3 ql=none:=by
  have sm:Same H3 H4:=fun b o e=>bt b o (zan e hx) (zdp hx hd _ _ e)
  have nql:ql≠x:=fun z=>by rw [z,zac] at hq; cases hq
  have q3:H3 ql=none:=by
    rw [zai nql] at hq
    by_cases e:ql=dx
    · rw [e,zac] at hq; cases hq
    · rw [zai e] at hq; exact hq
  refine ⟨sm,⟨⟨dx,fs,h1,h2⟩,⟨h3,.nil⟩,fun c e=>(hc c e).keep fun b o _ e=>sm b o e,fun b e=>(by cases e)⟩,?_,q3⟩
  show (x :: ql :: (chF ch++[])).Nodup
  rw [List.append_nil]
  cases ch with
  | none=>simp [chF,nql.symm]
  | some c =>
    have C1:=hc c rfl
    have n1:x ∉ five c.1:=fun z=>by
      obtain ⟨o,ho,_⟩:=C1.at z
      rw [hx] at ho; cases ho
    have n2:ql ∉ five c.1:=fun z=>by
      obtain ⟨o,ho,_⟩:=C1.at z
      rw [q3] at ho; cases ho
    rw [List.nodup_cons,List.nodup_cons]
    exact ⟨by rw [List.mem_cons,not_or]; exact ⟨nql.symm,n1⟩,n2,C1.nodup⟩
structure FTr (fs:List (Str×V)) (m:Int) (pn:Addr) (tm fr ct:Int) (pg:Addr):Prop where
 mo:fs.lookup ("most" : Str)=some (.int m)
 no:fs.lookup ("nodes" : Str)=some (.ref pn)
 ti:fs.lookup ("time" : Str)=some (.int tm)
 fr:fs.lookup ("free" : Str)=some (.int fr)
 co:fs.lookup ("counted" : Str)=some (.int ct)
 go:fs.lookup ("gone" : Str)=some (.ref pg)
 mis:∀ m:Str,¬ m = "most" -> ¬ m = "nodes" -> ¬ m = "time" -> ¬ m = "free" -> ¬ m = "counted" -> ¬ m = "gone" -> fs.lookup m=none
 len:fs.length<900
theorem FTr.mk0 (m:Int) (pn:Addr) (tm fr ct:Int) (pg:Addr):FTr (putF "gone" (.ref pg) (putF "counted" (.int ct) (putF "free" (.int fr) (putF "time" (.int tm) (putF "nodes" (.ref pn) (putF "most" (.int m) [])))))) m pn tm fr ct pg:=by
 refine ⟨?_,?_,?_,?_,?_,?_,fun m h1 h2 h3 h4 h5 h6=>?_,?_⟩
 ·rw [zag (by decide +kernel),zag (by decide +kernel),zag (by decide +kernel),zag (by decide +kernel),zag (by decide +kernel),zbf]
 ·rw [zag (by decide +kernel),zag (by decide +kernel),zag (by decide +kernel),zag (by decide +kernel),zbf]
 ·rw [zag (by decide +kernel),zag (by decide +kernel),zag (by decide +kernel),zbf]
 ·rw [zag (by decide +kernel),zag (by decide +kernel),zbf]
 ·rw [zag (by decide +kernel),zbf]
 ·rw [zbf]
 ·rw [zag h6,zag h5,zag h4,zag h3,zag h2,zag h1]; rfl
 ·have a1:=zao (fs:=[]) (f := "most") (v:=.int m)
  have a2:=zao (fs:=putF "most" (.int m) []) (f := "nodes") (v:=.ref pn)
  have a3:=zao (fs:=putF "nodes" (.ref pn) (putF "most" (.int m) [])) (f := "time") (v:=.int tm)
  have a4:=zao (fs:=putF "time" (.int tm) (putF "nodes" (.ref pn) (putF "most" (.int m) []))) (f := "free") (v:=.int fr)
  have a5:=zao (fs:=putF "free" (.int fr) (putF "time" (.int tm) (putF "nodes" (.ref pn) (putF "most" (.int m) [])))) (f := "counted") (v:=.int ct)
  have a6:=zao (fs:=putF "counted" (.int ct) (putF "free" (.int fr) (putF "time" (.int tm) (putF "nodes" (.ref pn) (putF "most" (.int m) []))))) (f := "gone") (v:=.ref pg)
  simp only [List.length_nil] at a1
  omega
theorem FTr.put_co {fs:List (Str×V)} {m:Int} {pn:Addr} {tm fr ct ct':Int} {pg:Addr} (h:FTr fs m pn tm fr ct pg):FTr (putF "counted" (.int ct') fs) m pn tm fr ct' pg:=by
 refine ⟨?_,?_,?_,?_,zbf,?_,fun m h1 h2 h3 h4 h5 h6=>?_,?_⟩
 ·rw [zag (by decide +kernel)]; exact h.mo
 ·rw [zag (by decide +kernel)]; exact h.no
 ·rw [zag (by decide +kernel)]; exact h.ti
 ·rw [zag (by decide +kernel)]; exact h.fr
 ·rw [zag (by decide +kernel)]; exact h.go
 ·rw [zag h5]; exact h.mis m h1 h2 h3 h4 h5 h6
 ·rw [zfh h.co]; exact h.len
theorem FTr.put_ti {fs:List (Str×V)} {m:Int} {pn:Addr} {tm tm' fr ct:Int} {pg:Addr} (h:FTr fs m pn tm fr ct pg):FTr (putF "time" (.int tm') fs) m pn tm' fr ct pg:=by
 refine ⟨?_,?_,zbf,?_,?_,?_,fun m h1 h2 h3 h4 h5 h6=>?_,?_⟩
 ·rw [zag (by decide +kernel)]; exact h.mo
 ·rw [zag (by decide +kernel)]; exact h.no
 ·rw [zag (by decide +kernel)]; exact h.fr
 ·rw [zag (by decide +kernel)]; exact h.co
 ·rw [zag (by decide +kernel)]; exact h.go
 ·rw [zag h3]; exact h.mis m h1 h2 h3 h4 h5 h6
 ·rw [zfh h.ti]; exact h.len
theorem FTr.put_fr {fs:List (Str×V)} {m:Int} {pn:Addr} {tm fr fr' ct:Int} {pg:Addr} (h:FTr fs m pn tm fr ct pg):FTr (putF "free" (.int fr') fs) m pn tm fr' ct pg:=by
 refine ⟨?_,?_,?_,zbf,?_,?_,fun m h1 h2 h3 h4 h5 h6=>?_,?_⟩
 ·rw [zag (by decide +kernel)]; exact h.mo
 ·rw [zag (by decide +kernel)]; exact h.no
 ·rw [zag (by decide +kernel)]; exact h.ti
 ·rw [zag (by decide +kernel)]; exact h.co
 ·rw [zag (by decide +kernel)]; exact h.go
 ·rw [zag h4]; exact h.mis m h1 h2 h3 h4 h5 h6
 ·rw [zfh h.fr]; exact h.len
abbrev D3:=Int×Int×Str
def d3V (g:D3):List V:=[.int g.1,.int g.2.1,.str g.2.2]
structure TD where
 p:Addr
 pn:Addr
 pg:Addr
 most:Int
 tm:Int
 fr:Int
 ct:Int
 ns:List ND
 gp:List Addr
 gs:List D3
def TD.foot (D:TD):List Addr:=D.p :: D.pn :: D.pg :: D.ns.flatMap ND.foot
def ndK (ns:List ND):List (Key×V):=ns.map fun x=>((Sum.inr x.nm:Key),V.ref x.p)
structure TrOk (C:Cl) (H:Hp) (D:TD):Prop where
 ex:∃ dx fs,H D.p=some (.ins C.t dx fs)/\FTr fs D.most D.pn D.tm D.fr D.ct D.pg
 hn:H D.pn=some (.dK (ndK D.ns))
 nd:∀ x∈D.ns,NdOk C H D.most x
 go:H D.pg=some (.lst (D.gp.map V.ref))
 gr:Paired (fun p g=>H p=some (.tup (d3V g))) D.gp D.gs
 fd:D.foot.Nodup
theorem zdq {α β:Type} {R S:α->β->Prop} (h:∀ a b,R a b->S a b):∀ {l:List α} {k:List β},Paired R l k->Paired S l k
 | _,_,.nil=>.nil
 | _,_,.cons a b=>.cons (h _ _ a) (zdq h b)
section
variable {C:Cl} {H H':Hp} {D:TD}
theorem TD.mem_node {x:ND} {b:Addr} (hx:x∈D.ns) (hb:b∈x.foot):b∈D.foot :=
 List.mem_cons_of_mem _ (List.mem_cons_of_mem _ (List.mem_cons_of_mem _ (List.mem_flatMap.mpr ⟨x,hx,hb⟩)))
theorem TrOk.keep (h:TrOk C H D) (e:∀ b o,(b∈D.foot\/∃ xs,H b=some (.tup xs))->H b=some o->H' b=some o):TrOk C H' D:=by
 obtain ⟨dx,fs,h1,h2⟩:=h.ex
 exact ⟨⟨dx,fs,e _ _ (.inl (List.mem_cons_self ..)) h1,h2⟩,e _ _ (.inl (List.mem_cons_of_mem _ (List.mem_cons_self ..))) h.hn,fun x hx=>(h.nd x hx).keep fun b o hb=>e b o (hb.imp (fun z=>TD.mem_node hx z) id),e _ _ (.inl (List.mem_cons_of_mem _ (List.mem_cons_of_mem _ (List.mem_cons_self ..)))) h.go,zdq (fun a b z=>e _ _ (.inr ⟨_,z⟩) z) h.gr,h.fd⟩
theorem TrOk.same (h:TrOk C H D) (s:Same H H'):TrOk C H' D:=h.keep fun b o _ e=>s b o e
theorem TrOk.at (h:TrOk C H D) {b:Addr} (hb:b∈D.foot):∃ o,H b=some o/\∀ xs,o≠.tup xs:=by
 unfold TD.foot at hb
 rcases List.mem_cons.mp hb with z | hb
 ·obtain ⟨dx,fs,h1,h2⟩:=h.ex
  subst z; exact ⟨_,h1,by intro xs y; cases y⟩
 rcases List.mem_cons.mp hb with z | hb
 ·subst z; exact ⟨_,h.hn,by intro xs y; cases y⟩
 rcases List.mem_cons.mp hb with z | hb
 ·subst z; exact ⟨_,h.go,by intro xs y; cases y⟩
 obtain ⟨x,hx,z⟩:=List.mem_flatMap.mp hb
 exact (h.nd x hx).at z
theorem TrOk.free (h:TrOk C H D) {b:Addr} (e:H b=none):b ∉ D.foot:=fun z=>by
 obtain ⟨o,ho,_⟩:=h.at z
 rw [ho] at e; cases e
theorem TrOk.notup (h:TrOk C H D) {b:Addr} {xs:List V} (e:H b=some (.tup xs)):b ∉ D.foot:=fun z=>by
 obtain ⟨o,ho,n⟩:=h.at z
 rw [ho] at e; exact n xs (Option.some.inj e)
theorem TrOk.other (h:TrOk C H D) {b:Addr} {o o':HO} (f:b ∉ D.foot) (e:H b=some o) (nt:∀ xs,o≠.tup xs):TrOk C (upd H b o') D:=by
 refine h.keep fun c u hc hu=>?_
 rw [zai fun z=>?_]
 ·exact hu
 ·subst z
  rcases hc with z | ⟨xs,z⟩
  ·exact f z
  ·rw [e] at z; exact nt xs (Option.some.inj z)
end
def fndN (ns:List ND) (x:Str):Option ND:=ns.find? fun n=>decide (n.nm=x)
theorem zas {ns:List ND} {x:Str} {n:ND} (h:fndN ns x=some n):n∈ns/\n.nm=x:=by
 unfold fndN at h
 exact ⟨List.mem_of_find?_eq_some h,of_decide_eq_true (List.find?_some (p:=fun n:ND=>decide (n.nm=x)) h)⟩
theorem fnd_none {ns:List ND} {x:Str}:fndN ns x=none↔x ∉ ns.map (·.nm):=by
 unfold fndN
 rw [List.find?_eq_none]
 constructor
 ·intro h z
  obtain ⟨n,hn,e⟩:=List.mem_map.mp z
  exact h n hn (decide_eq_true e)
 ·intro h n hn e
  exact h (List.mem_map.mpr ⟨n,hn,of_decide_eq_true e⟩)
theorem zdy {ns:List ND} (nd:(ns.map (·.nm)).Nodup) {n:ND} (h:n∈ns):fndN ns n.nm=some n:=by
 induction ns with
 | nil=>cases h
 | cons y r ih =>
  rw [List.map_cons,List.nodup_cons] at nd
  unfold fndN
  rw [List.find?_cons]
  rcases List.mem_cons.mp h with e | e
  ·subst e; simp
  ·have ne:decide (y.nm=n.nm)=false:=decide_eq_false fun z=>nd.1 (by rw [z]; exact List.mem_map.mpr ⟨n,e,rfl⟩)
   rw [ne]
   exact ih nd.2 e
theorem zjv (ns:List ND) (x:Str):valV (ndK ns) (Sum.inr x:Key)=(fndN ns x).map fun n=>V.ref n.p:=by
 induction ns with
 | nil=>rfl
 | cons p r ih =>
  unfold valV ndK fndN at ih ⊢
  rw [List.map_cons,List.find?_cons,List.find?_cons]
  by_cases h:p.nm=x
  ·simp [h]
  ·have h2:¬ (Sum.inr p.nm:Key)=Sum.inr x:=fun z=>h (Sum.inr.inj z)
   simp only [decide_eq_false h,decide_eq_false h2]
   exact ih
theorem zsk (ns:List ND):(ndK ns).length=ns.length:=List.length_map _
theorem zwt {ns:List ND} {n:ND} (h:fndN ns n.nm=none):putK (ndK ns) (Sum.inr n.nm:Key) (.ref n.p)=ndK (ns++[n]):=by
 unfold putK
 have e:((ndK ns).any fun kv=>decide (kv.1=(Sum.inr n.nm:Key)))=false:=by
  rw [zft,zjv,h]; rfl
 rw [e,if_neg (by decide)]
 unfold ndK
 rw [List.map_append]; rfl
theorem zsl {ns:List ND} {n:ND} (h:fndN ns n.nm=none) (x:Str):fndN (ns++[n]) x=if x=n.nm then some n else fndN ns x:=by
 unfold fndN at h ⊢
 rw [List.find?_append]
 by_cases e:x=n.nm
 ·subst e
  rw [if_pos rfl,h]; simp
 ·rw [if_neg e]
  have:([n].find? fun y=>decide (y.nm=x))=none:=by
   have:¬ n.nm=x:=fun z=>e z.symm
   simp [this]
  rw [this]; simp
def setN (ns:List ND) (n:ND):List ND:=ns.map fun y=>if y.nm=n.nm then n else y
theorem zlw (ns:List ND) (n:ND):(setN ns n).map (·.nm)=ns.map (·.nm):=by
 unfold setN
 rw [List.map_map]
 refine List.map_congr_left fun y _=>?_
 show (if y.nm=n.nm then n else y).nm=y.nm
 split
 ·rename_i h; exact h.symm
 ·rfl
theorem zie {ns:List ND} {n:ND} (x:Str):fndN (setN ns n) x=if x=n.nm then (fndN ns x).map (fun _=>n) else fndN ns x:=by
 induction ns with
 | nil=>unfold fndN setN; simp
 | cons p r ih =>
  unfold fndN setN at ih ⊢
  rw [List.map_cons,List.find?_cons,List.find?_cons]
  by_cases hp:p.nm=n.nm
  ·rw [if_pos hp]
   by_cases hy:p.nm=x
   ·have:n.nm=x:=hp ▸ hy
    simp [hy,this]
   ·have:¬ n.nm=x:=hp ▸ hy
    simp only [decide_eq_false hy,decide_eq_false this]
    exact ih
  ·rw [if_neg hp]
   by_cases hy:p.nm=x
   ·have:¬ x=n.nm:=fun z=>hp (hy.trans z)
    simp [hy,this]
   ·simp only [decide_eq_false hy]
    exact ih
theorem znl {l1 l2:List ND} {n n':ND} (e:n'.nm=n.nm) (nd:((l1++n :: l2).map (·.nm)).Nodup):setN (l1++n :: l2) n'=l1++n' :: l2:=by
 unfold setN
 rw [List.map_append,List.nodup_append,List.map_cons,List.nodup_cons] at nd
 rw [List.map_append,List.map_cons,if_pos e.symm]
 have h1:l1.map (fun y=>if y.nm=n'.nm then n' else y)=l1:=by
  conv=>rhs; rw [<- List.map_id l1]
  refine List.map_congr_left fun y hy=>?_
  rw [if_neg]; rfl
  intro z
  exact nd.2.2 y.nm (List.mem_map.mpr ⟨y,hy,rfl⟩) n.nm (List.mem_cons_self ..) (z.trans e)
 have h2:l2.map (fun y=>if y.nm=n'.nm then n' else y)=l2:=by
  conv=>rhs; rw [<- List.map_id l2]
  refine List.map_congr_left fun y hy=>?_
  rw [if_neg]; rfl
  intro z
  exact nd.2.1.1 (List.mem_map.mpr ⟨y,hy,z.trans e⟩)
 rw [h1,h2]
section
variable {C:Cl} {H H':Hp} {D:TD}
theorem TrOk.node (h:TrOk C H D) (nd:(D.ns.map (·.nm)).Nodup) {n n':ND} (hn:n∈D.ns) (e:n'.nm=n.nm) (ep:n'.p=n.p) (d:Deed n.foot H H') (ok:NdOk C H' D.most n') (fn:n'.foot.Nodup) (fr:∀ b∈n'.foot,b∈n.foot\/H b=none):TrOk C H' { D with ns:=setN D.ns n' }:=by
 obtain ⟨l1,l2,el⟩:=List.append_of_mem hn
 have fd:=h.fd
 unfold TD.foot at fd
 rw [el,List.flatMap_append,List.flatMap_cons] at fd
 simp only [List.nodup_cons,List.mem_cons,List.mem_append,not_or,List.nodup_append] at fd
 obtain ⟨⟨a1,a2,a3,a4,a5⟩,⟨b1,b2,b3,b4⟩,⟨c1,c2,c3⟩,d1,⟨d2,d3,d4⟩,d5⟩:=fd
 have nt:∀ b∈n.foot,∀ xs,H b≠some (.tup xs):=fun b hb xs z=>by
  obtain ⟨o,ho,q⟩:=(h.nd n hn).at hb
  rw [ho] at z; exact q xs (Option.some.inj z)
 obtain ⟨dx,fs,h1,h2⟩:=h.ex
 have new:∀ {b:Addr} {o:HO},H b=some o->b ∉ n.foot->b ∉ n'.foot:=fun {b o} ho hb z=>by
  rcases fr b z with y | y
  ·exact hb y
  ·rw [ho] at y; cases y
 have sp:setN D.ns n'=l1++n' :: l2:=by
  rw [el] at nd ⊢
  exact znl e nd
 have hs:∀ {b:Addr},b∈D.foot->∃ o,H b=some o:=fun {b} hb=>(h.at hb).imp fun _ z=>z.1
 refine ⟨⟨dx,fs,d _ _ a4 h1,h2⟩,?_,fun x hx=>?_,d _ _ c2 h.go,zdq (fun p g z=>d _ _ (fun y=>nt p y _ z) z) h.gr,?_⟩
 ·show H' D.pn=some (.dK (ndK (setN D.ns n')))
  have:ndK (setN D.ns n')=ndK D.ns:=by
   rw [sp,el]
   unfold ndK
   rw [List.map_append,List.map_append,List.map_cons,List.map_cons,e,ep]
  rw [this]
  exact d _ _ b3 h.hn
 ·have hx:x∈l1++n' :: l2:=sp ▸ hx
  have old:x∈D.ns->(∀ b∈x.foot,b ∉ n.foot)->NdOk C H' D.most x:=fun h1 h2=>(h.nd x h1).deed d h2 nt
  rcases List.mem_append.mp hx with z | z
  ·exact old (el ▸ List.mem_append.mpr (.inl z)) fun b hb y=>d5 b (List.mem_flatMap.mpr ⟨x,z,hb⟩) b (.inl y) rfl
  ·rcases List.mem_cons.mp z with z | z
   ·rw [z]; exact ok
   ·exact old (el ▸ List.mem_append.mpr (.inr (List.mem_cons_of_mem _ z))) fun b hb y=>d4 b y b (List.mem_flatMap.mpr ⟨x,z,hb⟩) rfl
 ·show (D.p :: D.pn :: D.pg :: (setN D.ns n').flatMap ND.foot).Nodup
  rw [sp,List.flatMap_append,List.flatMap_cons]
  simp only [List.nodup_cons,List.mem_cons,List.mem_append,not_or,List.nodup_append]
  have hl1:∀ {b:Addr},b∈l1.flatMap ND.foot->∃ o,H b=some o:=fun {b} hb=>by
   obtain ⟨x,hx,y⟩:=List.mem_flatMap.mp hb
   exact hs (TD.mem_node (el ▸ List.mem_append.mpr (.inl hx)) y)
  have hl2:∀ {b:Addr},b∈l2.flatMap ND.foot->∃ o,H b=some o:=fun {b} hb=>by
   obtain ⟨x,hx,y⟩:=List.mem_flatMap.mp hb
   exact hs (TD.mem_node (el ▸ List.mem_append.mpr (.inr (List.mem_cons_of_mem _ hx))) y)
  refine ⟨⟨a1,a2,a3,new h1 a4,a5⟩,⟨b1,b2,new h.hn b3,b4⟩,⟨c1,new h.go c2,c3⟩,d1,⟨fn,d3,fun b hb c hc z=>?_⟩,fun b hb c hc z=>?_⟩
  ·subst z
   obtain ⟨o,ho⟩:=hl2 hc
   exact new ho (fun y=>d4 b y b hc rfl) hb
  ·subst z
   obtain ⟨o,ho⟩:=hl1 hb
   rcases hc with y | y
   ·exact new ho (fun q=>d5 b hb b (.inl q) rfl) y
   ·exact d5 b hb b (.inr y) rfl
end
def road:Str:=Str.ofString "road"
inductive Up (ns:List ND):Str->List Str->Prop
 | top {x:Str} {n:ND}:fndN ns x=some n->n.ab=none->Up ns x [x]
 | on {x y:Str} {n:ND} {ys:List Str}:fndN ns x=some n->n.ab=some y->Up ns y ys->Up ns x (x :: ys)
theorem Up.fnd {ns:List ND} {x:Str} {ys:List Str} (h:Up ns x ys):∃ n,fndN ns x=some n:=by
 cases h with
 | top h _=>exact ⟨_,h⟩
 | on h _ _=>exact ⟨_,h⟩
theorem Up.det {ns:List ND} {x:Str} {ys zs:List Str} (h:Up ns x ys):Up ns x zs->ys=zs:=by
 induction h generalizing zs with
 | top h e =>
  intro k
  cases k with
  | top _ _=>rfl
  | on h2 e2 _=>rw [h] at h2; cases h2; rw [e] at e2; cases e2
 | on h e r ih =>
  intro k
  cases k with
  | top h2 e2=>rw [h] at h2; cases h2; rw [e] at e2; cases e2
  | on h2 e2 r2 =>
   rw [h] at h2; cases h2; rw [e] at e2; cases e2
   rw [ih r2]
theorem Up.mono {ns ns':List ND} {x:Str} {ys:List Str} (h:Up ns x ys):(∀ z∈ys,∀ n,fndN ns z=some n->∃ n',fndN ns' z=some n'/\n'.ab=n.ab)->Up ns' x ys:=by
 induction h with
 | top h e =>
  intro k
  obtain ⟨n',h1,h2⟩:=k _ (List.mem_cons_self ..) _ h
  exact .top h1 (h2.trans e)
 | on h e r ih =>
  intro k
  obtain ⟨n',h1,h2⟩:=k _ (List.mem_cons_self ..) _ h
  exact .on h1 (h2.trans e) (ih fun z hz=>k z (List.mem_cons_of_mem _ hz))
theorem Up.last {ns:List ND} {x:Str} {ys:List Str} (h:Up ns x ys) (r:∀ n∈ns,n.ab=none->n.nm=road):∃ zs,ys=zs++[road]:=by
 induction h with
 | top h e =>
  obtain ⟨a,b⟩:=zas h
  exact ⟨[],by rw [<- b,r _ a e]; rfl⟩
 | on h e k ih =>
  obtain ⟨zs,z⟩:=ih
  exact ⟨_ :: zs,by rw [z]; rfl⟩
theorem Up.mem {ns:List ND} {x:Str} {ys:List Str} (h:Up ns x ys):∀ z∈ys,∃ n,fndN ns z=some n:=by
 induction h with
 | top h e=>intro z hz; rw [List.mem_singleton.mp hz]; exact ⟨_,h⟩
 | on h e k ih =>
  intro z hz
  rcases List.mem_cons.mp hz with q | q
  ·rw [q]; exact ⟨_,h⟩
  ·exact ih z q
def kids (ns:List ND) (x:Str):List Str:=(ns.filter fun n=>decide (n.ab=some x)).map (·.nm)
structure TD.Wf (D:TD):Prop where
 nn:(D.ns.map (·.nm)).Nodup
 rd:∃ n r,D.ns=n :: r/\n.nm=road/\n.ab=none/\n.ch≠none
 ra:∀ n∈D.ns,n.ab=none->n.nm=road
 up:∀ n∈D.ns,∃ ys,Up D.ns n.nm ys/\ys.length<=6
 kid:∀ n∈D.ns,∀ c,n.ch=some c->c.2.nm.map (·.1)=kids D.ns n.nm
 lf:∀ n∈D.ns,n.ch=none->kids D.ns n.nm = []
 cok:∀ n∈D.ns,∀ c,n.ch=some c->c.2.Ok D.most
 m1:1<=D.most/\D.most<=1000000
 sok:∀ n∈D.ns,PyData.strOk n.nm=true/\n.nm.length<=8
theorem TD.Wf.rdN {D:TD} (h:D.Wf):∃ n,fndN D.ns L2.road=some n/\n.ab=none/\n.ch≠none:=by
 obtain ⟨n,r,e,h1,h2,h3⟩:=h.rd
 have:=zdy h.nn (n:=n) (by rw [e]; exact List.mem_cons_self ..)
 exact ⟨n,h1 ▸ this,h2,h3⟩
theorem zuf (ns:List ND) (n:ND) (x:Str):kids (ns++[n]) x=kids ns x++(if n.ab=some x then [n.nm] else []):=by
 unfold kids
 rw [List.filter_append,List.map_append]
 congr 1
 by_cases h:n.ab=some x
 ·simp [h]
 ·simp [h]
theorem zpr {ns:List ND} {n n':ND} (nd:(ns.map (·.nm)).Nodup) (hn:n∈ns) (e:n'.nm=n.nm) (ea:n'.ab=n.ab) (x:Str):kids (setN ns n') x=kids ns x:=by
 obtain ⟨l1,l2,el⟩:=List.append_of_mem hn
 rw [el] at nd ⊢
 rw [znl e nd]
 unfold kids
 rw [List.filter_append,List.filter_append,List.map_append,List.map_append]
 congr 1
 rw [List.filter_cons,List.filter_cons,ea]
 by_cases h:n.ab=some x
 ·simp [h,e]
 ·simp [h]
theorem TD.Wf.set {D:TD} (h:D.Wf) {n n':ND} (hn:n∈D.ns) (e:n'.nm=n.nm) (ea:n'.ab=n.ab) (ec:n'.ch=none↔n.ch=none) (ek:∀ c c',n.ch=some c->n'.ch=some c'->c'.2.nm.map (·.1)=c.2.nm.map (·.1)) (ok:∀ c,n'.ch=some c->c.2.Ok D.most):{ D with ns:=setN D.ns n' }.Wf:=by
 have fn:=zdy h.nn hn
 have fs:∀ y,fndN (setN D.ns n') y=if y=n.nm then some n' else fndN D.ns y:=fun y=>by
  rw [zie,e]
  by_cases q:y=n.nm
  ·rw [if_pos q,if_pos q,q,fn]; rfl
  ·rw [if_neg q,if_neg q]
 have mem:∀ y∈setN D.ns n',y=n'\/y∈D.ns:=fun y hy=>by
  unfold setN at hy
  obtain ⟨z,hz,q⟩:=List.mem_map.mp hy
  split at q
  ·exact .inl q.symm
  ·exact .inr (q ▸ hz)
 have kd:=fun x=>zpr h.nn hn e ea x
 have upm:∀ {x ys},Up D.ns x ys->Up (setN D.ns n') x ys:=fun {x ys} u=>u.mono fun z _ m hm=>by
  rw [fs]
  by_cases q:z=n.nm
  ·rw [if_pos q]
   rw [q,fn] at hm; cases hm
   exact ⟨_,rfl,ea⟩
  ·rw [if_neg q]; exact ⟨m,hm,rfl⟩
 obtain ⟨r,rs,er,r1,r2,r3⟩:=h.rd
 refine ⟨by show ((setN D.ns n').map (·.nm)).Nodup; rw [zlw]; exact h.nn,?_,fun y hy ha=>?_,fun y hy=>?_,fun y hy c hc=>?_,fun y hy hc=>?_,fun y hy c hc=>?_,h.m1,fun y hy=>?_⟩
 ·show ∃ n r,setN D.ns n'=n :: r/\_
  rw [er]
  unfold setN
  rw [List.map_cons]
  by_cases q:r.nm=n'.nm
  ·rw [if_pos q]
   have:r=n:=by
    have h1:=zdy h.nn (n:=r) (by rw [er]; exact List.mem_cons_self ..)
    rw [q,e,fn] at h1; exact (Option.some.inj h1).symm
   subst this
   exact ⟨_,_,rfl,q ▸ r1,ea.trans r2,fun z=>r3 (ec.mp z)⟩
  ·rw [if_neg q]; exact ⟨_,_,rfl,r1,r2,r3⟩
 ·rcases mem y hy with z | z
  ·subst z; rw [e]; exact h.ra n hn (ea ▸ ha)
  ·exact h.ra y z ha
 ·rcases mem y hy with z | z
  ·subst z
   obtain ⟨ys,u,l⟩:=h.up n hn
   exact ⟨ys,by rw [e]; exact upm u,l⟩
  ·obtain ⟨ys,u,l⟩:=h.up y z
   exact ⟨ys,upm u,l⟩
 ·show _=kids (setN D.ns n') y.nm
  rw [kd]
  rcases mem y hy with z | z
  ·subst z
   cases hc0:n.ch with
   | none=>rw [ec.mpr hc0] at hc; cases hc
   | some c0=>rw [ek c0 c hc0 hc,e]; exact h.kid n hn c0 hc0
  ·exact h.kid y z c hc
 ·show kids (setN D.ns n') y.nm = []
  rw [kd]
  rcases mem y hy with z | z
  ·subst z; rw [e]; exact h.lf n hn (ec.mp hc)
  ·exact h.lf y z hc
 ·rcases mem y hy with z | z
  ·subst z; exact ok c hc
  ·exact h.cok y z c hc
 ·rcases mem y hy with z | z
  ·subst z; rw [e]; exact h.sok n hn
  ·exact h.sok y z
theorem TD.Wf.put {D:TD} (h:D.Wf) {u u' n:ND} {c:At5×CSt} {s:Int} (hu:u∈D.ns) (hc:u.ch=some c) (eu:u' = { u with ch:=some (c.1,c.2.put n.nm s) }) (ok:(c.2.put n.nm s).Ok D.most) (hn:fndN D.ns n.nm=none) (ea:n.ab=some u.nm) (dp:∀ ys,Up D.ns u.nm ys->ys.length<=5) (nk:∀ c,n.ch=some c->c.2.nm = []/\c.2.Ok D.most) (sk:PyData.strOk n.nm=true/\n.nm.length<=8):{ D with ns:=setN D.ns u'++[n] }.Wf:=by
 have en:u'.nm=u.nm:=by rw [eu]
 have eab:u'.ab=u.ab:=by rw [eu]
 have fu:=zdy h.nn hu
 have nin:n.nm ∉ D.ns.map (·.nm):=fnd_none.mp hn
 have nu:n.nm≠u.nm:=fun z=>nin (z ▸ List.mem_map.mpr ⟨u,hu,rfl⟩)
 have fs:∀ y,fndN (setN D.ns u') y=if y=u.nm then some u' else fndN D.ns y:=fun y=>by
  rw [zie,en]
  by_cases q:y=u.nm
  ·rw [if_pos q,if_pos q,q,fu]; rfl
  ·rw [if_neg q,if_neg q]
 have hn':fndN (setN D.ns u') n.nm=none:=by rw [fs,if_neg nu]; exact hn
 have ff:=fun y=>zsl (n:=n) hn' y
 have mem:∀ y∈setN D.ns u'++[n],y=n\/y=u'\/(y∈D.ns/\y.nm≠u.nm):=fun y hy=>by
  rcases List.mem_append.mp hy with hy | hy
  ·unfold setN at hy
   obtain ⟨z,hz,q⟩:=List.mem_map.mp hy
   split at q
   ·exact .inr (.inl q.symm)
   ·rename_i k
    exact .inr (.inr ⟨q ▸ hz,fun w=>k (by rw [q,w,en])⟩)
  ·exact .inl (List.mem_singleton.mp hy)
 have upm:∀ {x ys},Up D.ns x ys->Up (setN D.ns u'++[n]) x ys:=fun {x ys} w=>w.mono fun z _ m hm=>by
  rw [ff,fs]
  have z1:z≠n.nm:=fun q=>by rw [q,hn] at hm; cases hm
  rw [if_neg z1]
  by_cases q:z=u.nm
  ·rw [if_pos q]
   rw [q,fu] at hm; cases hm
   exact ⟨_,rfl,eab⟩
  ·rw [if_neg q]; exact ⟨m,hm,rfl⟩
 have kd:∀ x,kids (setN D.ns u'++[n]) x=kids D.ns x++(if x=u.nm then [n.nm] else []):=fun x=>by
  rw [zuf,zpr h.nn hu en eab,ea]
  by_cases q:x=u.nm
  ·rw [if_pos q,if_pos (by rw [q])]
  ·rw [if_neg q,if_neg (fun z=>q (Option.some.inj z).symm)]
 have nokid:kids D.ns n.nm = []:=by
  unfold kids
  rw [List.map_eq_nil_iff,List.filter_eq_nil_iff]
  intro y hy z
  have z:=of_decide_eq_true z
  obtain ⟨ys,w,_⟩:=h.up y hy
  cases w with
  | top h1 h2=>rw [zdy h.nn hy] at h1; cases h1; rw [z] at h2; cases h2
  | on h1 h2 w =>
   rw [zdy h.nn hy] at h1; cases h1; rw [z] at h2; cases h2
   obtain ⟨m,hm⟩:=w.fnd
   rw [hn] at hm; cases hm
 obtain ⟨r,rs,er,r1,r2,r3⟩:=h.rd
 refine ⟨?_,?_,fun y hy ha=>?_,fun y hy=>?_,fun y hy d hd=>?_,fun y hy hd=>?_,fun y hy d hd=>?_,h.m1,fun y hy=>?_⟩
 ·show ((setN D.ns u'++[n]).map (·.nm)).Nodup
  rw [List.map_append,zlw,List.nodup_append]
  refine ⟨h.nn,by simp,fun a ha b hb z=>?_⟩
  have:b=n.nm:=List.mem_singleton.mp hb
  subst this
  subst z
  exact nin ha
 ·show ∃ m r,setN D.ns u'++[n] = m :: r/\_
  rw [er]
  unfold setN
  rw [List.map_cons,List.cons_append]
  by_cases q:r.nm=u'.nm
  ·rw [if_pos q]
   have:r=u:=by
    have h1:=zdy h.nn (n:=r) (by rw [er]; exact List.mem_cons_self ..)
    rw [q,en,fu] at h1; exact (Option.some.inj h1).symm
   subst this
   exact ⟨_,_,rfl,q ▸ r1,eab.trans r2,by rw [eu]; simp⟩
  ·rw [if_neg q]; exact ⟨_,_,rfl,r1,r2,r3⟩
 ·rcases mem y hy with z | z | z
  ·subst z; rw [ea] at ha; cases ha
  ·subst z; rw [en]; exact h.ra u hu (eab ▸ ha)
  ·exact h.ra y z.1 ha
 ·rcases mem y hy with z | z | z
  ·subst z
   obtain ⟨ys,w,_⟩:=h.up u hu
   refine ⟨y.nm :: ys,.on (n:=y) (by rw [ff,if_pos rfl]) ea (upm w),?_⟩
   have:=dp ys w
   rw [List.length_cons]; omega
  ·subst z
   obtain ⟨ys,w,l⟩:=h.up u hu
   exact ⟨ys,by rw [en]; exact upm w,l⟩
  ·obtain ⟨ys,w,l⟩:=h.up y z.1
   exact ⟨ys,upm w,l⟩
 ·show _=kids (setN D.ns u'++[n]) y.nm
  rw [kd]
  rcases mem y hy with z | z | z
  ·subst z
   rw [(nk d hd).1,nokid,if_neg nu]; rfl
  ·subst z
   rw [en,if_pos rfl]
   have:d=(c.1,c.2.put n.nm s):=by rw [eu] at hd; exact (Option.some.inj hd).symm
   rw [this]
   show (c.2.put n.nm s).nm.map (·.1) = _
   rw [CSt.nm_put,List.map_append,h.kid u hu c hc]; rfl
  ·rw [if_neg z.2,List.append_nil]; exact h.kid y z.1 d hd
 ·show kids (setN D.ns u'++[n]) y.nm = []
  rw [kd]
  rcases mem y hy with z | z | z
  ·subst z; rw [nokid,if_neg nu]; rfl
  ·subst z; rw [eu] at hd; cases hd
  ·rw [if_neg z.2,List.append_nil]; exact h.lf y z.1 hd
 ·rcases mem y hy with z | z | z
  ·subst z; exact (nk d hd).2
  ·subst z
   have:d=(c.1,c.2.put n.nm s):=by rw [eu] at hd; exact (Option.some.inj hd).symm
   rw [this]; exact ok
  ·exact h.cok y z.1 d hd
 ·rcases mem y hy with z | z | z
  ·subst z; exact sk
  ·subst z; rw [en]; exact h.sok u hu
  ·exact h.sok y z.1
theorem TD.Wf.new {D:TD} {n:ND} {a:At5} {b:Bool} (e:D.ns = [n]) (h1:n.nm=road) (h2:n.ab=none) (h3:n.ch=some (a,CSt.new b)) (m1:1<=D.most/\D.most<=1000000):D.Wf:=by
 have one:∀ {y},y∈D.ns->y=n:=fun {y} hy=>by rw [e] at hy; exact List.mem_singleton.mp hy
 have f:fndN D.ns n.nm=some n:=by rw [e]; unfold fndN; simp
 have kd:∀ x,kids D.ns x = []:=fun x=>by
  rw [e]; unfold kids
  simp [h2]
 refine ⟨by rw [e]; simp,⟨n,[],e,h1,h2,by rw [h3]; simp⟩,fun y hy _=>one hy ▸ h1,fun y hy=>?_,fun y hy c hc=>?_,fun y hy _=>kd _,fun y hy c hc=>?_,m1,fun y hy=>?_⟩
 ·rw [one hy]; exact ⟨[n.nm],.top f h2,by simp⟩
 ·rw [kd]
  rw [one hy,h3] at hc
  cases hc
  show (CSt.new b).nm.map _ = []
  rw [CSt.nm_new]; rfl
 ·rw [one hy,h3] at hc
  cases hc
  exact CSt.Ok.new m1.1 b
 ·rw [one hy,h1]; exact ⟨by decide +kernel,by decide +kernel⟩
theorem TD.Wf.kid_len {D:TD} (h:D.Wf) {n:ND} (hn:n∈D.ns) {c:At5×CSt} (hc:n.ch=some c):c.2.nm.length<=D.ns.length:=by
 have:=congrArg List.length (h.kid n hn c hc)
 unfold kids at this
 rw [List.length_map,List.length_map] at this
 rw [this]
 exact List.length_filter_le _ _
section
variable {C:Cl} {H H':Hp} {D:TD}
theorem TrOk.ndfoot (h:TrOk C H D) {n:ND} (hn:n∈D.ns):n.foot.Nodup:=by
 have fd:=h.fd
 unfold TD.foot at fd
 obtain ⟨l1,l2,el⟩:=List.append_of_mem hn
 rw [el,List.flatMap_append,List.flatMap_cons] at fd
 simp only [List.nodup_cons,List.nodup_append] at fd
 exact fd.2.2.2.2.1.1
theorem TrOk.chooser (h:TrOk C H D) (nd:(D.ns.map (·.nm)).Nodup) {n:ND} (hn:n∈D.ns) {a:At5} {c c':CSt} (hc:n.ch=some (a,c)) (ow:Own a H H') (C':ChS C.s C.r C.m H' a D.most c'):TrOk C H' { D with ns:=setN D.ns { n with ch:=some (a,c') } }:=by
 have fn:=h.ndfoot hn
 have N:=h.nd n hn
 have ef:ND.foot { n with ch:=some (a,c') } = n.foot:=by unfold ND.foot; rw [hc]; rfl
 have sub:∀ b∈five a,b∈n.foot:=fun b hb=>by
  unfold ND.foot
  rw [hc]
  exact List.mem_cons_of_mem _ (List.mem_cons_of_mem _ (List.mem_append.mpr (.inl hb)))
 have fd:n.foot=n.p :: n.ql :: (five a++bkF n.bk):=by unfold ND.foot; rw [hc]; rfl
 have fn':=fn
 rw [fd] at fn'
 simp only [List.nodup_cons,List.mem_cons,List.mem_append,not_or,List.nodup_append] at fn'
 obtain ⟨⟨f1,f2,f3⟩,⟨f4,f5⟩,f6,f7,f8⟩:=fn'
 have dd:=ow.deed
 have nt:∀ {b xs},H b=some (.tup xs)->b ∉ five a:=fun {b xs} e z=>by
  obtain ⟨o,ho,q⟩:=(N.ch _ hc).at z
  rw [e] at ho; exact q xs (Option.some.inj ho).symm
 obtain ⟨dx,fs,h1,h2⟩:=N.ex
 refine h.node nd hn rfl rfl (dd.mono sub) ⟨⟨dx,fs,dd _ _ f2 h1,by rw [hc] at h2; exact h2⟩,⟨dd _ _ f4 N.qu.hl,N.qu.r.keep fun p z hp=>dd _ _ (nt hp) hp⟩,fun d hd=>?_,fun b hb=>?_⟩ (by rw [ef]; exact fn) fun b hb=>.inl (by rw [ef] at hb; exact hb)
 ·cases hd; exact C'
 ·obtain ⟨dx',fs',pr,pl,b1,b2,b3,b4⟩:=(N.bk b hb).ex
  have:b.1 ∉ five a:=fun z=>f8 b.1 z b.1 (by rw [show n.bk=some b from hb]; exact List.mem_singleton.mpr rfl) rfl
  exact ⟨dx',fs',pr,pl,dd _ _ this b1,b2,dd _ _ (nt b3) b3,dd _ _ (nt b4) b4⟩
theorem TrOk.snoc (h:TrOk C H D) {n:ND} (s:Same H H') (ok:NdOk C H' D.most n) (fn:n.foot.Nodup) (fr:∀ b∈n.foot,H b=none):TrOk C (upd H' D.pn (.dK (ndK (D.ns++[n])))) { D with ns:=D.ns++[n] }:=by
 have fd:=h.fd
 unfold TD.foot at fd
 simp only [List.nodup_cons,List.mem_cons,not_or] at fd
 obtain ⟨⟨a1,a2,a3⟩,⟨b1,b2⟩,c1,d1⟩:=fd
 have nf:∀ b∈D.foot,b ∉ n.foot:=fun b hb z=>by
  obtain ⟨o,ho,_⟩:=h.at hb
  rw [fr b z] at ho; cases ho
 have kp:∀ b o,b≠D.pn->H' b=some o->upd H' D.pn (.dK (ndK (D.ns++[n]))) b=some o:=fun b o q e=>by rw [zai q]; exact e
 have tp:∀ {b xs},H' b=some (.tup xs)->b≠D.pn:=fun {b xs} e z=>by rw [z,s _ _ h.hn] at e; cases e
 obtain ⟨dx,fs,h1,h2⟩:=h.ex
 have h':=h.same s
 refine ⟨⟨dx,fs,kp _ _ a1 (s _ _ h1),h2⟩,zac,fun x hx=>?_,kp _ _ (Ne.symm b1) (s _ _ h.go),zdq (fun p g z=>kp _ _ (tp z) z) h'.gr,?_⟩
 ·rcases List.mem_append.mp hx with z | z
  ·refine (h'.nd x z).keep fun b o hb e=>kp b o ?_ e
   rcases hb with q | ⟨xs,q⟩
   ·exact fun w=>b2 (w ▸ List.mem_flatMap.mpr ⟨x,z,q⟩)
   ·exact tp q
  ·rw [List.mem_singleton.mp z]
   refine ok.keep fun b o hb e=>kp b o ?_ e
   rcases hb with q | ⟨xs,q⟩
   ·exact fun w=>nf D.pn (List.mem_cons_of_mem _ (List.mem_cons_self ..)) (w ▸ q)
   ·exact tp q
 ·show (D.p :: D.pn :: D.pg :: (D.ns++[n]).flatMap ND.foot).Nodup
  rw [List.flatMap_append,List.flatMap_cons,List.flatMap_nil,List.append_nil]
  simp only [List.nodup_cons,List.mem_cons,List.mem_append,not_or,List.nodup_append]
  have f1:=nf D.p (List.mem_cons_self ..)
  have f2:=nf D.pn (List.mem_cons_of_mem _ (List.mem_cons_self ..))
  have f3:=nf D.pg (List.mem_cons_of_mem _ (List.mem_cons_of_mem _ (List.mem_cons_self ..)))
  refine ⟨⟨a1,a2,a3,f1⟩,⟨b1,b2,f2⟩,⟨c1,f3⟩,d1,fn,fun b hb c hc z=>?_⟩
  subst z
  obtain ⟨x,hx,y⟩:=List.mem_flatMap.mp hb
  exact nf b (TD.mem_node hx y) hc
end
theorem zeq {n:Nat} (h:n<=1000000):n<sizeLine:=by rw [sizeLine_eq]; omega
theorem zwu {n:Nat} (h:n<=1000000):n<=sizeLine:=Nat.le_of_lt (zeq h)
theorem zeb {α:Type} {l:List α} {i:Nat} {a:α} (h:l[i]? = some a):l.take (i+1)=l.take i++[a]:=by
 obtain ⟨hi,e⟩:=List.getElem?_eq_some_iff.mp h
 rw [List.take_succ_eq_append_getElem hi,e]
def StOk (n:Nat) (z:Str):Prop:=PyData.strOk z=true/\z.length<=n
theorem zzb {z:Str}:PyData.strOk z=true↔∀ c∈z.cps.toList,c<1114112:=by
 unfold PyData.strOk
 rw [Array.all_eq_true_iff_forall_mem]
 simp
def lets:Str:=Str.ofString "abcdefghijklmnopqrstuvwxyz"
def zej (z:Str):Prop:=(1<=z.length/\z.length<=8)/\∀ c∈z.cps.toList,c∈lets.cps.toList
instance (z:Str):Decidable (zej z):=by unfold zej; exact inferInstance
def Inner (kd:Str):Prop:=kd=Str.ofString "starts" \/ kd=Str.ofString "rounds"
instance (kd:Str):Decidable (Inner kd):=by unfold Inner; exact inferInstance
def kdB (kd:Str):Bool:=decide (kd=Str.ofString "rounds")
theorem zps {kd:Str}:inV (.str kd) [.str (Str.ofString "starts"),.str (Str.ofString "rounds")] = decide (Inner kd):=by
 rw [Bool.eq_iff_iff,decide_eq_true_iff]
 show (Str.ofString "starts" == kd || (Str.ofString "rounds" == kd || false))=true↔kd=Str.ofString "starts" \/ kd=Str.ofString "rounds"
 rw [Bool.or_false,Bool.or_eq_true,beq_iff_eq,beq_iff_eq]
 exact ⟨fun h=>h.imp Eq.symm Eq.symm,fun h=>h.imp Eq.symm Eq.symm⟩
theorem nd_at {C:Cl} {H:Hp} {D:TD} {x:Str} {n:ND} (O:TrOk C H D) (h:fndN D.ns x=some n):DGet H D.pn (.str x) (some (.ref n.p)):=by
 have:=DGet.k (k:=Sum.inr x) O.hn
 rw [zjv,h] at this
 exact this
def kdOk (kd:Str):Prop:=kd=Str.ofString "leaf" \/ Inner kd
instance (kd:Str):Decidable (kdOk kd):=by unfold kdOk; exact inferInstance
inductive Rf
 | name | taken | cls | place | share | length
open Classical in
noncomputable def dueP (D:TD) (x u kd:Str) (s:Int) (rm:V):Option Rf :=
 if ¬ zej x then some .name
 else if fndN D.ns x≠none then some .taken
 else match fndN D.ns u with
  | none=>some .cls
  | some n=>if ¬ (kdOk kd/\n.ch≠none/\∀ ys,Up D.ns u ys->ys.length<=5) then some .place
   else if ¬ (1<=s/\s<=1000000) then some .share
   else if kd=Str.ofString "leaf" /\ ∃ r:Int,rm = .int r/\r<0 then some .length
   else none
section
variable {D:TD} {x u kd:Str} {s:Int} {rm:V} {n:ND}
theorem zpt (h:¬ zej x):dueP D x u kd s rm=some .name:=by unfold dueP; rw [if_pos h]
theorem znm (h:zej x) (hx:fndN D.ns x≠none):dueP D x u kd s rm=some .taken:=by unfold dueP; rw [if_neg (fun z=>z h),if_pos hx]
theorem zsm (h:zej x) (hx:fndN D.ns x=none) (hu:fndN D.ns u=none):dueP D x u kd s rm=some .cls:=by unfold dueP; rw [if_neg (fun z=>z h),if_neg (fun z=>z hx),hu]
theorem znn (h:zej x) (hx:fndN D.ns x=none) (hu:fndN D.ns u=some n) (c:¬ (kdOk kd/\n.ch≠none/\∀ ys,Up D.ns u ys->ys.length<=5)):dueP D x u kd s rm=some .place:=by
 unfold dueP; rw [if_neg (fun z=>z h),if_neg (fun z=>z hx),hu]
 exact if_pos c
theorem zno (h:zej x) (hx:fndN D.ns x=none) (hu:fndN D.ns u=some n) (c:kdOk kd/\n.ch≠none/\∀ ys,Up D.ns u ys->ys.length<=5) (d:¬ (1<=s/\s<=1000000)):dueP D x u kd s rm=some .share:=by
 unfold dueP; rw [if_neg (fun z=>z h),if_neg (fun z=>z hx),hu]
 exact (if_neg (fun z=>z c)).trans (if_pos d)
theorem zqo (h:zej x) (hx:fndN D.ns x=none) (hu:fndN D.ns u=some n) (c:kdOk kd/\n.ch≠none/\∀ ys,Up D.ns u ys->ys.length<=5) (d:1<=s/\s<=1000000) (e:kd=Str.ofString "leaf" /\ ∃ r:Int,rm = .int r/\r<0):dueP D x u kd s rm=some .length:=by
 unfold dueP; rw [if_neg (fun z=>z h),if_neg (fun z=>z hx),hu]
 exact (if_neg (fun z=>z c)).trans ((if_neg (fun z=>z d)).trans (if_pos e))
theorem zlx (h:zej x) (hx:fndN D.ns x=none) (hu:fndN D.ns u=some n) (c:kdOk kd/\n.ch≠none/\∀ ys,Up D.ns u ys->ys.length<=5) (d:1<=s/\s<=1000000) (e:¬ (kd=Str.ofString "leaf" /\ ∃ r:Int,rm = .int r/\r<0)):dueP D x u kd s rm=none:=by
 unfold dueP; rw [if_neg (fun z=>z h),if_neg (fun z=>z hx),hu]
 exact (if_neg (fun z=>z c)).trans ((if_neg (fun z=>z d)).trans (if_neg e))
end
def Rf.at (cN cT cC cP cS cL:Addr):Rf->Addr
 | .name=>cN
 | .taken=>cT
 | .cls=>cC
 | .place=>cP
 | .share=>cS
 | .length=>cL
def TD.put (D:TD) (u:ND) (c:At5×CSt) (s:Int) (n:ND):TD:={ D with ns:=setN D.ns { u with ch:=some (c.1,c.2.put n.nm s) }++[n] }
def TD.full (D:TD):Prop:=D.ns.length<=60/\∀ n∈D.ns,∀ c,n.ch=some c->c.2.sz<=4*D.ns.length
def TD.fit (D:TD):Prop:=D.ns.length<=60/\∀ n∈D.ns,∀ c,n.ch=some c->c.2.sz<=800
section
variable {X:Cx}
end
theorem zug {c:TT} {t1 t2:TS} {D:Ends} {σ:St} {H:Hp} (h:∀ G:St->Hp->Prop,(∀ σ H,t1 D σ H->G σ H)->tIfS c (fun _ σ H=>G σ H) t2 D σ H):tIfS c t1 t2 D σ H:=h (t1 D) fun _ _ z=>z
section
variable {C:Cl} {H H':Hp} {D:TD}
theorem TrOk.apart (h:TrOk C H D) {x:ND} (hx:x∈D.ns) {b:Addr} (hb:b∈x.foot):b≠D.p/\b≠D.pn/\b≠D.pg:=by
 have fd:=h.fd
 unfold TD.foot at fd
 simp only [List.nodup_cons,List.mem_cons,not_or] at fd
 have m:=List.mem_flatMap.mpr ⟨x,hx,hb⟩
 exact ⟨fun z=>fd.1.2.2 (z ▸ m),fun z=>fd.2.1.2 (z ▸ m),fun z=>fd.2.2.1 (z ▸ m)⟩
theorem TrOk.field (h:TrOk C H D) {dx:Addr} {fs fs':List (Str×V)} {tm fr ct:Int} (hp:H D.p=some (.ins C.t dx fs)) (ft:FTr fs' D.most D.pn tm fr ct D.pg):TrOk C (upd H D.p (.ins C.t dx fs')) { D with tm:=tm,fr:=fr,ct:=ct }:=by
 have fd:=h.fd
 unfold TD.foot at fd
 simp only [List.nodup_cons,List.mem_cons,not_or] at fd
 have kp:∀ b o,b≠D.p->H b=some o->upd H D.p (.ins C.t dx fs') b=some o:=fun b o q e=>by rw [zai q]; exact e
 have tp:∀ {b xs},H b=some (.tup xs)->b≠D.p:=fun {b xs} e z=>by rw [z,hp] at e; cases e
 refine ⟨⟨dx,fs',zac,ft⟩,kp _ _ (Ne.symm fd.1.1) h.hn,fun x hx=>(h.nd x hx).keep fun b o hb e=>kp b o ?_ e,kp _ _ (Ne.symm fd.1.2.1) h.go,zdq (fun p g z=>kp _ _ (tp z) z) h.gr,h.fd⟩
 rcases hb with q | ⟨xs,q⟩
 ·exact (h.apart hx q).1
 ·exact tp q
theorem TrOk.queue (h:TrOk C H D) (nd:(D.ns.map (·.nm)).Nodup) {n:ND} (hn:n∈D.ns) {ps:List Addr} {qu:List D2} (r:Duos H ps qu):TrOk C (upd H n.ql (.lst (ps.map V.ref))) { D with ns:=setN D.ns { n with ps:=ps,qu:=qu } }:=by
 have fn:=h.ndfoot hn
 have N:=h.nd n hn
 have fn':=fn
 unfold ND.foot at fn'
 simp only [List.nodup_cons,List.mem_cons,List.mem_append,not_or] at fn'
 obtain ⟨⟨f1,f2,f3⟩,⟨f4,f5⟩,f6⟩:=fn'
 have kp:∀ b o,b≠n.ql->H b=some o->upd H n.ql (.lst (ps.map V.ref)) b=some o:=fun b o q e=>by rw [zai q]; exact e
 have tp:∀ {b xs},H b=some (.tup xs)->b≠n.ql:=fun {b xs} e z=>by rw [z,N.qu.hl] at e; cases e
 obtain ⟨dx,fs,h1,h2⟩:=N.ex
 refine h.node nd hn rfl rfl (zhh (List.mem_cons_of_mem _ (List.mem_cons_self ..))) ⟨⟨dx,fs,kp _ _ f1 h1,h2⟩,⟨zac,r.keep fun p z hp=>kp _ _ (tp hp) hp⟩,fun c hc=>?_,fun b hb=>?_⟩ fn fun b hb=>.inl hb
 ·refine (N.ch c hc).keep fun b o hb e=>kp b o ?_ e
  rcases hb with q | ⟨xs,q⟩
  ·exact fun z=>f4 (by rw [show n.ch=some c from hc]; exact z ▸ q)
  ·exact tp q
 ·obtain ⟨dx',fs',pr,pl,b1,b2,b3,b4⟩:=(N.bk b hb).ex
  have:b.1≠n.ql:=fun z=>f5 (by rw [show n.bk=some b from hb]; exact List.mem_singleton.mpr z.symm)
  exact ⟨dx',fs',pr,pl,kp _ _ this b1,b2,kp _ _ (tp b3) b3,kp _ _ (tp b4) b4⟩
end
section
variable {C:Cl} {H H':Hp} {D:TD}
end
theorem zok {X:Cx} (K:PySem.W.Frag) (h:X.K=K) {e:Expr} {f:Str} {pos:Pos} {ta:TE} (he:PE X e ta) (hb:attributeBase e f X.env (eval e X.env)=eval e X.env):PE X (.Attribute e f pos) (tFld K ta f):=h ▸ zaq he hb
section
variable {prog:Program} {w:World} {A:Around} {R:Result->Shared->Prop}
def zzc (ns:List Int) (j:Nat) (buf:Array Value):Prop:=(j = 0/\buf = #[])\/∃ m t,buf = #[.int m t,.int m t]/\m∈ns.take j/\∀ n∈ns.take j,m<=n
def zvk (ns:List Int) (d v:Value):Prop:=(ns = []/\v=d)\/∃ m t,v = .int m t/\m∈ns/\∀ n∈ns,m<=n
theorem zuh {l it S:Addr} {ns:List Int} {its:List Value} {d:Value} (hh:A.handled=none) (hli:l≠it) (hSi:S≠it) (hSl:S≠l) (rv:Vals (ns.map V.int) its) :
    ∀ (k j:Nat) (s:Shared) (buf:Array Value) (c:Nat),its.length-j=k->j<=its.length->s.heap.IsListIter it l j->s.heap.IsList l its.toArray->zzc ns j buf ->
    s.heap.get? S=some { cls:=.type "list", dict:=none,data:=.seq buf c,slots:=#[] } ->
    (∀ v h' tk,zvk ns d v->(∀ b o,b≠it->b≠S->s.heap.get? b=some o->h'.get? b=some o)->R (.ok (.ret v)) { s with heap:=h',toks:=tk }) ->
    codeAny (model prog w) A (.builtin "min.loop" ⟨[.ref it,.none,.ref S],[("default", d)]⟩) R s:=by
  have hlen:ns.length=its.length:=by have:=rv.length; rwa [List.length_map] at this
  have nm:(toString "min" ++ toString ".loop" : String) = "min.loop" := by decide
  intro k
  induction k with
  | zero =>
    intro j s buf c hk hj hit hls hb hbuf fin
    have ej:j=its.length:=by omega
    refine codeAny_builtin F.entry_min_loop ?_
    rw [Around.under_plainId F.plain_min_loop _]
    show wpAny _ A.in1 (seqItems? (.ref S) >>= _) _ _ s
    refine wpAny_bind (wpAny_seqItems hbuf rfl ?_)
    show wpAny _ A.in1 (tryCatch (pyNext (.ref it)) _ >>= _) _ _ s
    refine wpAny_bind (wpAny_tryCatch (wpAny_pyNext_list_end (A:=A.in1) hh hit hls (by simp [ej]) fun h' ek=>?_))
    have hb':=ek S _ hSi hbuf
    rcases hb with ⟨e0,rfl⟩ | ⟨m,t,rfl,hm,hall⟩
    · refine wpAny_bind (wpAny_rule (wpAny_pure ?_))
      refine fin d h' s.toks (.inl ⟨List.length_eq_zero_iff.mp (by omega),rfl⟩) fun b o n1 _ e=>ek b o n1 e
    · show wpAny _ A.in1 (updateSeq S (fun _=>#[]) >>= _) _ _ _
      refine wpAny_bind (wpAny_updateSeq hb' rfl (wpAny_bind (wpAny_letGo (wpAny_pure ?_))))
      rw [List.take_of_length_le (by omega)] at hm hall
      exact fin _ _ s.toks (.inr ⟨m,t,rfl,hm,hall⟩) fun b o n1 n2 e=>(Heap.get?_update_other _ _ (Ne.symm n2)).trans (ek b o n1 e)
  | succ k ih =>
    intro j s buf c hk hj hit hls hb hbuf fin
    have hlt:j<its.length:=by omega
    refine codeAny_builtin F.entry_min_loop ?_
    rw [Around.under_plainId F.plain_min_loop _]
    show wpAny _ A.in1 (seqItems? (.ref S) >>= _) _ _ s
    refine wpAny_bind (wpAny_seqItems hbuf rfl ?_)
    show wpAny _ A.in1 (tryCatch (pyNext (.ref it)) _ >>= _) _ _ s
    have hv:its.toArray[j]? = some its[j]:=by simp [hlt]
    refine wpAny_bind (wpAny_tryCatch (wpAny_pyNext_list_item hit hls hv fun h' hit' hs'=>?_))
    obtain ⟨n,t,en,ev⟩:=zpf rv hv
    rw [ev]
    have hb':=hs'.extBut S _ hSi hbuf
    have hls':h'.IsList l its.toArray:=hls.extBut hs'.extBut hli
    have step:∀ (m:Int) (tt:Tok) (s2:Shared) (c2:Nat),s2.heap.IsListIter it l (j+1)->s2.heap.IsList l its.toArray->s2.heap.get? S=some { cls:=.type "list", dict:=none,data:=.seq #[.int m tt,.int m tt] c2,slots:=#[] } ->
        m∈ns.take (j+1)->(∀ z∈ns.take (j+1),m<=z)->(∀ b o,b≠it->b≠S->s.heap.get? b=some o->s2.heap.get? b=some o)->s2.gens=s.gens->s2.drawn=s.drawn->s2.os=s.os ->
        codeAny (model prog w) A (.builtin "min.loop" ⟨[.ref it,.none,.ref S],[("default", d)]⟩) R s2:=fun m tt s2 c2 i1 i2 i3 i4 i5 i6 g1 g2 g3=>by
      refine ih (j+1) s2 _ c2 (by omega) hlt i1 i2 (.inr ⟨m,tt,rfl,i4,i5⟩) i3 fun v h'' tk'' r1 r2=>?_
      have:=fin v h'' tk'' r1 fun b o n1 n2 e=>r2 b o n1 n2 (i6 b o n1 n2 e)
      obtain ⟨q1,q2,q3,q4,q5⟩:=s2
      obtain ⟨p1,p2,p3,p4,p5⟩:=s
      cases g1; cases g2; cases g3
      exact this
    have etake:=zhb en
    have upd_keep:∀ (g:Obj->Obj) b o,b≠it->b≠S->s.heap.get? b=some o->(h'.update S g).get? b=some o:=fun g b o n1 n2 e=>(Heap.get?_update_other _ _ (Ne.symm n2)).trans (hs'.extBut b o n1 e)
    rcases hb with ⟨e0,rfl⟩ | ⟨m,t0,rfl,hm,hall⟩
    · show wpAny _ A.in1 (updateSeq S (fun _=>_) >>= _) _ _ _
      refine wpAny_bind (wpAny_updateSeq hb' rfl ?_)
      rw [nm]
      refine wpAny_pure ⟨plainId_quiet F.plain_min_loop _,step n t _ _ (hit'.at fun o e=>(Heap.get?_update_other _ _ hSi).trans e) (hls'.at fun o e=>(Heap.get?_update_other _ _ hSl).trans e) (Heap.get?_update_self _ hb' rfl) ?_ ?_ (upd_keep _) rfl rfl rfl⟩
      · rw [etake]; simp
      · rw [etake,e0]; simp
    · show wpAny _ A.in1 (tryCatch (holding [.int n t,.int n t] (richCompare .Lt (.int n t) (.int m t0) >>= _)) _ >>= _) _ _ _
      refine wpAny_bind (wpAny_tryCatch (wpAny_holding (wpAny_bind (richCompare_gives (op:=.Lt) (typeIs_int _ _ t) (typeIs_int _ _ t0) F.slot_int_lt F.entry_int_lt (F.args_int_lt_2 _ _) (gives_int_lt _ _ t t0) (fun x=>nomatch x) ?_))))
      refine wpAny_bind (wpAny_holding (wpAny_truthy_bool (wpAny_bind (wpAny_letGo (wpAny_pure ?_)))))
      by_cases hgt:n<m
      · simp only [hgt,decide_true,if_true]
        refine wpAny_bind (wpAny_updateSeq hb' rfl (wpAny_bind (wpAny_letGo ?_)))
        rw [nm]
        refine wpAny_pure ⟨plainId_quiet F.plain_min_loop _,step n t _ _ (hit'.at fun o e=>(Heap.get?_update_other _ _ hSi).trans e) (hls'.at fun o e=>(Heap.get?_update_other _ _ hSl).trans e) (Heap.get?_update_self _ hb' rfl) ?_ ?_ (upd_keep _) rfl rfl rfl⟩
        · rw [etake]; simp
        · rw [etake]
          intro z hz
          rcases List.mem_append.mp hz with hz | hz
          · have:=hall z hz; omega
          · have:z=n:=by simpa using hz
            omega
      · simp only [hgt,decide_false,Bool.false_eq_true,if_false]
        refine wpAny_bind (wpAny_letGo ?_)
        rw [nm]
        refine wpAny_pure ⟨plainId_quiet F.plain_min_loop _,step m t0 _ c hit' hls' hb' ?_ ?_ (fun b o n1 _ e=>hs'.extBut b o n1 e) rfl rfl rfl⟩
        · rw [etake]; exact List.mem_append_left _ hm
        · rw [etake]
          intro z hz
          rcases List.mem_append.mp hz with hz | hz
          · exact hall z hz
          · have:z=n:=by simpa using hz
            omega
theorem zsn (a d:Value):argsOk "min" ⟨[a],[("default", d)]⟩:=by unfold argsOk; kernel_rfl
theorem zso {E:Value->Shared->Prop} {s:Shared} {l:Addr} {ns:List Int} {its:List Value} {d:Value} {Q:Value->Shared->Prop} (hh:A.handled=none) (hl:s.heap.IsList l its.toArray) (rv:Vals (ns.map V.int) its)
    (h:∀ v h' tk,zvk ns d v->(∀ b o,s.heap.get? b=some o->h'.get? b=some o)->Q v { s with heap:=h',toks:=tk }) :
    wpAny (model prog w) A (call (.builtin "min") [.ref l] [("default", d)]) Q E s:=by
  have nm:(toString "min" ++ toString ".loop" : String) = "min.loop" := by decide
  refine wpAny_call (codeAny_call_builtin F.plain_min F.entry_min ?_)
  have ca:checkBuiltinCall "min" ⟨[.ref l],[("default", d)]⟩ = pure ():=by
    simp only [checkBuiltinCall,F.kind_min]
    cases hsig:Manifest.signature? "min" with
    | none=>rfl
    | some sig =>
      have ha:=zsn (.ref l) d
      simp only [argsOk,hsig] at ha
      exact ha
  rw [ca]
  refine wpAny_pure ?_
  show wpAny _ A.in1 (Builtin.Builtins.bindParams "min" ["key", "default"] 0 ⟨[],[("default", d)]⟩ >>= _) _ _ s
  refine wpAny_bind (wpAny_of_eq (show Builtin.Builtins.bindParams "min" ["key", "default"] 0 ⟨[],[("default", d)]⟩ = pure [none,some d] from rfl) ?_)
  refine wpAny_bind (wpAny_pure ?_)
  have hlt:l<s.heap.objs.size:=by obtain ⟨_,e,_⟩:=id hl; exact Heap.lt_size e
  refine wpAny_bind (wpAny_pyIter_list hl ?_)
  refine wpAny_bind (wpAny_newObj_type ?_)
  rw [nm]
  have kp:∀ (x y:Obj) b o,s.heap.get? b=some o->((s.heap.push x).push y).get? b=some o:=fun x y b o e=>Heap.get?_push_of_some _ (Heap.get?_push_of_some _ e)
  refine wpAny_pure ⟨plainId_quiet F.plain_min_loop _,?_⟩
  refine zuh (it:=s.heap.objs.size) (S:=(s.heap.push _).objs.size) hh (Nat.ne_of_lt hlt) (by rw [Heap.size_push]; exact Nat.succ_ne_self _) (by rw [Heap.size_push]; exact Nat.ne_of_gt (Nat.lt_succ_of_lt hlt)) rv its.length 0 _ #[] 0 rfl (Nat.zero_le _)
    ⟨_,Heap.get?_push_of_some _ (Heap.get?_push_size _ rfl),rfl,rfl⟩ (hl.at fun o e=>kp _ _ _ _ e) (.inl ⟨rfl,rfl⟩) (Heap.get?_push_size _ rfl) fun v h' tk r1 r2=>?_
  refine h v h' tk r1 fun b o e=>r2 b o (Nat.ne_of_lt (Heap.lt_size e)) (Nat.ne_of_lt ?_) (kp _ _ _ _ e)
  rw [Heap.size_push]; exact Nat.lt_succ_of_lt (Heap.lt_size e)
end
def tMinD (K:PySem.W.Frag) (t:TA) (td:TE):TE:=fun σ H Q=>t σ H fun xs H1=>td σ H1 fun y H2=>∃ (p:Addr) (ns:List Int),xs = [.ref p]/\SqL K H2 p (ns.map V.int)/\(ns = []->Q y H2)/\∀ m,m∈ns->(∀ n∈ns,m<=n)->Q (.int m) H2
theorem zwv {X:Cx} (K:PySem.W.Frag) (hK:X.K=K) (hc:X.calm=true) {l d:Expr} {t:TA} {td:TE} {p pos kpos:Pos} (hg:Gl X "min") (hm:X.mg "min" = none) (hl:PA X [l] t) (hd:PE X d td)
    (he:starEach [l] X.env = [(false,eval l X.env)]:=by rfl) :
    PE X (.Call (.Name "min" p) [l] [⟨some "default", d,kpos⟩] pos) (tMinD K t td):=by
  subst hK
  intro pins s σ H Q I h
  refine wpAny_Call_Name_kw (zow I hg hm boot_min ?_)
  refine callWith_kw (he:=by rw [he]; rfl) (hplain:=by rw [he]; rfl) ?_
  refine thn (hl pos pins s σ H _ I h) fun us s1 ⟨xs,H1,I1,r1,q1⟩=>?_
  refine kws_cons (thn (hd pins s1 σ H1 _ I1 q1) fun y s2 ⟨yv,H2,I2,r2,q2⟩=>kws_nil ?_)
  obtain ⟨a,ns,rfl,hq,f0,fin⟩:=q2
  obtain ⟨u,rfl,ru⟩:=vals1 r1
  cases (show u=Value.ref a from ru)
  obtain ⟨its,rv,hp,hz⟩:=I2.list hq
  refine zso (I2.ok.hd hc) hp.isList rv fun v h' tk r k=>?_
  rcases r with ⟨e,rfl⟩ | ⟨m,t3,rfl,e1,e2⟩
  · exact ⟨yv,H2,I2.kept (t':=tk) k,r2,f0 e⟩
  · exact ⟨.int m,H2,I2.kept (t':=tk) k,⟨_,rfl⟩,fin m e1 e2⟩
theorem zui {X:Cx} {e:Expr}:PE X e (fun _ _ _=>False):=fun _ _ _ _ _ _ h=>h.elim
section
variable {prog:Program} {w:World} {A:Around} {E:Value->Shared->Prop} {s:Shared}
end
section
variable {X:Cx}
end
def BkS.lv (b:BkS) (t:Int):Rat:=Sw.lvl b.d b.r b.s b.l t
structure BkOk (m:Int) (b:BkS):Prop where
 m1:1<=m
 d1:m<=b.d
 d2:b.d<=1000000000000
 r0:0<b.r
 rz:Sw.SzQ 70 b.r
 rd:(b.r.den:Int)<=1000000
 n:∃ n:Int,b.l=(n:Rat) / ((b.r.den:Int):Rat)/\0<=n/\n<=b.d*(b.r.den:Int)
 s0:0<=b.s
theorem BkOk.num {m:Int} {b:BkS} (h:BkOk m b):0<b.r.num:=by
 have:=h.r0
 have e:0<b.r↔0<b.r.num:=by
  rw [<- Sw.q_lt]
  show (0:Int) * _ < _ * ((1:Nat):Int)↔_
  omega
 exact e.mp this
theorem zww {d:Int} {r:Rat} {s n t:Int}:Sw.lvl d r s ((n:Rat) / ((r.den:Int):Rat)) t=((if n+r.num*(t-s)<d*(r.den:Int) then n+r.num*(t-s) else d*(r.den:Int):Int):Rat) / ((r.den:Int):Rat):=by
 have dn:=Sw.q_cast_ne (Sw.q_den_ne r)
 have e3:((n+r.num*(t-s):Int):Rat) / ((r.den:Int):Rat)=(n:Rat) / ((r.den:Int):Rat)+r*((t-s:Int):Rat):=by
  rw [Rat.intCast_add,Rat.intCast_mul,Sw.q_num r]
  grind
 have e4:((d*(r.den:Int):Int):Rat) / ((r.den:Int):Rat)=(d:Rat):=by
  rw [Rat.intCast_mul]
  grind
 have e5:n+r.num*(t-s)<d*(r.den:Int)↔(n:Rat) / ((r.den:Int):Rat)+r*((t-s:Int):Rat)<(d:Rat):=by
  rw [<- e3,zvg]
 unfold Sw.lvl
 rw [Rat.min_def]
 by_cases hc:n+r.num*(t-s)<d*(r.den:Int)
 ·rw [if_pos hc,e3]
  rw [e5] at hc
  grind
 ·rw [if_neg hc,e4]
  rw [e5] at hc
  grind
theorem BkOk.lvn {m:Int} {b:BkS} (h:BkOk m b) {t:Int} (ht:b.s<=t):∃ level:Int,b.lv t=(level:Rat) / ((b.r.den:Int):Rat)/\0<=level/\level<=b.d*(b.r.den:Int):=by
 obtain ⟨n,e,n0,n1⟩:=h.n
 refine ⟨if n+b.r.num*(t-b.s)<b.d*(b.r.den:Int) then n+b.r.num*(t-b.s) else b.d*(b.r.den:Int),?_,?_,?_⟩
 ·unfold BkS.lv
  rw [e]
  exact zww
 ·have:=Int.mul_nonneg (Int.le_of_lt h.num) (show 0<=t-b.s by omega)
  split <;> omega
 ·split <;> omega
theorem BkOk.mono {m:Int} {b:BkS} (h:BkOk m b) {t u:Int} (tu:t<=u):b.lv t<=b.lv u:=by
 unfold BkS.lv Sw.lvl
 have hr:=h.r0
 have e:((t-b.s:Int):Rat)<=((u-b.s:Int):Rat):=Rat.intCast_le_intCast.mpr (by omega)
 have e2:b.r*((t-b.s:Int):Rat)<=b.r*((u-b.s:Int):Rat):=Rat.mul_le_mul_of_nonneg_left e (Rat.le_of_lt hr)
 rw [Rat.min_def,Rat.min_def]
 grind
def BkS.when (b:BkS) (t len:Int):Int:=if (len:Rat)<=b.lv t then t else t+(((len:Rat)-b.lv t) / b.r).ceil
theorem le_den {a b:Int} {r:Rat}:(b:Rat)<=(a:Rat) / ((r.den:Int):Rat)↔b*(r.den:Int)<=a:=by
 have:=zvg (a:=a) (b:=b) (r:=r)
 constructor
 ·intro h
  rcases Int.lt_or_le a (b*(r.den:Int)) with z | z
  ·have:=this.mpr z
   grind
  ·exact z
 ·intro h
  rcases Rat.le_total (a:=(b:Rat)) (b:=(a:Rat) / ((r.den:Int):Rat)) with z | z
  ·exact z
  ·rcases Rat.le_iff_lt_or_eq.mp z with y | y
   ·have:=this.mp y
    omega
   ·rw [y]; exact Rat.le_refl
theorem BkOk.when_ge {m:Int} {b:BkS} (h:BkOk m b) (t len:Int):t<=b.when t len:=by
 unfold BkS.when
 split
 ·exact Int.le_refl _
 ·rename_i c
  have hr:=h.r0
  have:(0:Rat)<=((len:Rat)-b.lv t) / b.r:=by
   refine Rat.not_lt.mp fun z=>?_
   rw [Rat.div_lt_iff hr] at z
   grind
  have h2:(0:Rat)<=((((len:Rat)-b.lv t) / b.r).ceil:Rat):=Rat.le_trans this Rat.le_ceil
  have h3:((0:Int):Rat)<=((((len:Rat)-b.lv t) / b.r).ceil:Rat):=h2
  have:=Rat.intCast_le_intCast.mp h3
  omega
theorem zzd {b:BkS} {t u:Int} (hr:0<b.r) (tu:t<=u):b.lv u=min (b.lv t+b.r*((u-t:Int):Rat)) (b.d:Rat):=by
 unfold BkS.lv Sw.lvl
 have e:((u-b.s:Int):Rat)=((t-b.s:Int):Rat)+((u-t:Int):Rat):=by
  rw [<- Rat.intCast_add]
  congr 1
  omega
 have e2:(0:Rat)<=b.r*((u-t:Int):Rat):=by
  refine Rat.mul_nonneg (Rat.le_of_lt hr) ?_
  have:((0:Int):Rat)<=((u-t:Int):Rat):=Rat.intCast_le_intCast.mpr (by omega)
  exact this
 rw [e,Rat.mul_add,Rat.min_def,Rat.min_def,Rat.min_def]
 grind
theorem BkOk.when_holds {m:Int} {b:BkS} (h:BkOk m b) {t len:Int} (hl:len<=m):(len:Rat)<=b.lv (b.when t len):=by
 by_cases c:(len:Rat)<=b.lv t
 ·have:b.when t len=t:=by unfold BkS.when; rw [if_pos c]
  rw [this]; exact c
 ·have hg:=h.when_ge t len
  have hr:=h.r0
  rw [zzd hr hg]
  have hd:(len:Rat)<=(b.d:Rat):=Rat.intCast_le_intCast.mpr (by have:=h.d1; omega)
  have e:b.when t len-t=(((len:Rat)-b.lv t) / b.r).ceil:=by unfold BkS.when; rw [if_neg c]; omega
  rw [e]
  have h1:((len:Rat)-b.lv t) / b.r<=((((len:Rat)-b.lv t) / b.r).ceil:Rat):=Rat.le_ceil
  have h2:b.r*(((len:Rat)-b.lv t) / b.r)<=b.r*((((len:Rat)-b.lv t) / b.r).ceil:Rat):=Rat.mul_le_mul_of_nonneg_left h1 (Rat.le_of_lt hr)
  have h3:b.r*(((len:Rat)-b.lv t) / b.r)=(len:Rat)-b.lv t:=by
   have:b.r≠0:=by grind
   grind
  rw [Rat.min_def]
  grind
theorem BkOk.when_le {m:Int} {b:BkS} (h:BkOk m b) {t len:Int} (ht:b.s<=t) (l0:0<=len) (hl:len<=1000000):b.when t len<=t+1000000000000:=by
 obtain ⟨level,el,v0,v1⟩:=h.lvn ht
 unfold BkS.when
 split
 ·omega
 ·rename_i c
  rw [el] at c ⊢
  have c2:¬ len*(b.r.den:Int)<=level:=fun z=>c (le_den.mpr z)
  have:=zwk h.num v0 l0 c2
  have e:tick len level b.r=(((len:Rat)-(level:Rat) / ((b.r.den:Int):Rat)) / b.r).ceil:=rfl
  rw [<- e]
  have d0:=Sw.q_den_pos b.r
  have:len*(b.r.den:Int)<=1000000*1000000:=Int.mul_le_mul hl h.rd (Int.le_of_lt d0) (by decide)
  omega
def BkS.pay (b:BkS) (t len:Int):BkS:={ b with s:=t,l:=b.lv t-(len:Rat) }
theorem BkOk.pay {m:Int} {b:BkS} (h:BkOk m b) {t len:Int} (ht:b.s<=t) (l0:0<=len) (hl:(len:Rat)<=b.lv t):BkOk m (b.pay t len):=by
 obtain ⟨level,el,v0,v1⟩:=h.lvn ht
 rw [el,le_den] at hl
 have np:0<=len*(b.r.den:Int):=Int.mul_nonneg l0 (Int.le_of_lt (Sw.q_den_pos b.r))
 refine ⟨h.m1,h.d1,h.d2,h.r0,h.rz,h.rd,⟨level-len*(b.r.den:Int),?_,by omega,by show _<=b.d*(b.r.den:Int); omega⟩,by have:=h.s0; show 0<=t; omega⟩
 show b.lv t-(len:Rat)=((level-len*(b.r.den:Int):Int):Rat) / ((b.r.den:Int):Rat)
 have dn:=Sw.q_cast_ne (Sw.q_den_ne b.r)
 rw [el,Rat.intCast_sub,Rat.intCast_mul]
 grind
structure LfT (bs:List BkS) (t len a:Int):Prop where
 ge:t<=a
 ok:∀ b∈bs,(len:Rat)<=b.lv a
 le:∀ u,t<=u->(∀ b∈bs,(len:Rat)<=b.lv u)->a<=u
theorem LfT.now {bs:List BkS} {t len a:Int} (h:LfT bs t len a):a=t↔∀ b∈bs,(len:Rat)<=b.lv t:=by
 constructor
 ·intro e; subst e; exact h.ok
 ·intro k
  have:=h.le t (Int.le_refl _) k
  have:=h.ge
  omega
theorem LfT.bound {m:Int} {bs:List BkS} {t len a:Int} (h:LfT bs t len a) (ok:∀ b∈bs,BkOk m b) (hl:len<=m) (l0:0<=len) (m6:m<=1000000) (hs:∀ b∈bs,b.s<=t):a<=t+1000000000000:=by
 refine h.le _ (by omega) fun b hb=>?_
 exact Rat.le_trans ((ok b hb).when_holds hl) ((ok b hb).mono ((ok b hb).when_le (hs b hb) l0 (by omega)))
def zfb (rs:Nm) (x:Str):Int:=(shOf rs x).getD 0
def endQ (q:List Str):Option Str->List Str
 | none=>q
 | some t=>q++[t]
def endR (rs:Nm):Option Str->Nm
 | none=>rs
 | some t=>putN rs t (if 0<zfb rs t then 0 else zfb rs t)
def keepT (rs:Nm) (rd:List Str):Option Str->Bool
 | none=>false
 | some t=>decide (t∈rd) && decide (0<zfb rs t)
theorem zet (rs:Nm) (rd:List Str) (t:Str):keepT rs rd (some t)=(decide (t∈rd) && decide (0<zfb rs t)):=rfl
theorem zsp (rs:Nm) (t:Str):endR rs (some t)=putN rs t (if 0<zfb rs t then 0 else zfb rs t):=rfl
def pickX (q:List Str) (rs:Nm) (tu:Option Str) (rd:List Str):Option Str:=if keepT rs rd tu then tu else (endQ q tu).find? fun x=>decide (x∈rd)
def pickQ (q:List Str) (rs:Nm) (tu:Option Str) (rd:List Str) (x:Str):List Str:=if keepT rs rd tu then q else (endQ q tu).erase x
def pickR (most:Int) (nm:Nm) (rs:Nm) (tu:Option Str) (rd:List Str) (x:Str):Nm:=if keepT rs rd tu then rs else putN (endR rs tu) x (zfb (endR rs tu) x+(shOf nm x).getD 0*most)
section
variable {most:Int} {nm:Nm} {q:List Str} {rs:Nm} {tu:Option Str}
theorem ri_rs (h:Sw.RI most nm q rs tu) {x:Str}:shOf rs x≠none↔shOf nm x≠none:=by rw [Sw.sh_mem,Sw.sh_mem,h.ks]
theorem ri_tu (h:Sw.RI most nm q rs tu) {t:Str} (ht:tu=some t):shOf nm t≠none:=by
 rw [Sw.sh_mem,<- h.pm.mem_iff,ht]
 simp
theorem zpu (h:Sw.RI most nm q rs tu):rs.length=nm.length/\q.length<=nm.length:=by
 have e1:=congrArg List.length h.ks
 have e2:=h.pm.length_eq
 rw [List.length_map,List.length_map] at e1
 rw [List.length_append,List.length_map] at e2
 exact ⟨e1,by omega⟩
theorem zvl (h:Sw.RI most nm q rs tu):Sw.RI most nm (endQ q tu) (endR rs tu) none:=by
 cases tu with
 | none=>exact h
 | some t =>
  have e:=(ri_rs h).mpr (ri_tu h rfl)
  cases er:shOf rs t with
  | none=>exact absurd er e
  | some r =>
   have:=h.ends rfl er
   rw [zsp]
   unfold zfb
   rw [er]
   exact this
theorem ri_nd (h:Sw.RI most nm q rs tu):q.Nodup:=(List.nodup_append.mp (h.pm.nodup_iff.mpr h.nd)).1
theorem ri_q (h:Sw.RI most nm q rs tu) {y:Str} (hy:y∈q):y∈nm.map (·.1):=h.pm.mem_iff.mp (List.mem_append.mpr (.inl hy))
theorem zsq (h:Sw.RI most nm q rs none) {rd:List Str} (ne:rd≠[]) (sub:∀ x∈rd,shOf nm x≠none):∃ x s r,q.find? (fun x=>decide (x∈rd))=some x/\x∈rd/\x∈q/\shOf nm x=some s/\shOf rs x=some r:=by
 cases rd with
 | nil=>exact absurd rfl ne
 | cons y l =>
  have hy:=Sw.sh_mem.mp (sub y (by simp))
  have yq:y∈q:=by
   have:=h.pm.mem_iff.mpr hy
   rwa [Option.toList_none,List.append_nil] at this
  cases hf:q.find? fun x=>decide (x∈y :: l) with
  | none =>
   have:=List.find?_eq_none.mp hf y yq
   simp at this
  | some x =>
   have xr:x∈y :: l:=by
    have:=List.find?_some hf
    exact of_decide_eq_true this
   have hx:=sub x xr
   have hr:=(ri_rs h).mpr hx
   cases e1:shOf nm x with
   | none=>exact absurd e1 hx
   | some s =>
    cases e2:shOf rs x with
    | none=>exact absurd e2 hr
    | some r=>exact ⟨x,s,r,rfl,xr,List.mem_of_find?_eq_some hf,e1,e2⟩
theorem zwx (h:Sw.RI most nm q rs tu) {rd:List Str} (ne:rd≠[]) (sub:∀ x∈rd,shOf nm x≠none) :
    ∃ x,pickX q rs tu rd=some x/\x∈rd/\Sw.RI most nm (pickQ q rs tu rd x) (pickR most nm rs tu rd x) (some x)/\∃ r,shOf (pickR most nm rs tu rd x) x=some r/\0<r:=by
  unfold pickX pickQ pickR
  by_cases c:keepT rs rd tu=true
  · cases tu with
    | none=>cases c
    | some t =>
      rw [zet,Bool.and_eq_true,decide_eq_true_eq,decide_eq_true_eq] at c
      have c':keepT rs rd (some t)=true:=by rw [zet,decide_eq_true c.1,decide_eq_true c.2]; rfl
      refine ⟨t,by rw [if_pos c'],c.1,by rw [if_pos c',if_pos c']; exact h,?_⟩
      rw [if_pos c']
      cases e:shOf rs t with
      | none=>exact absurd e ((ri_rs h).mpr (ri_tu h rfl))
      | some r =>
        have:=c.2
        unfold zfb at this
        rw [e] at this
        exact ⟨r,rfl,this⟩
  · have h1:=zvl h
    obtain ⟨x,s,r,hf,xr,xq,e1,e2⟩:=zsq h1 ne sub
    obtain ⟨h2,pos⟩:=h1.begins xq e2 e1
    refine ⟨x,by rw [if_neg c]; exact hf,xr,?_,?_⟩
    · rw [if_neg c,if_neg c]
      unfold zfb
      rw [e1,e2]
      exact h2
    · rw [if_neg c]
      unfold zfb
      rw [e1,e2,zjd,if_pos rfl,e2]
      exact ⟨_,rfl,pos⟩
end
structure PickOk (H:Hp) (a:At5) (most:Int) (nm:Nm) (q:List Str) (rs:Nm) (tu:Option Str) (rl:Addr) (rd:List Str):Prop where
 ri:Sw.RI most nm q rs tu
 m1:most<=1000000
 nl:nm.length<=90
 ok:∀ y∈nm.map (·.1),PyData.strOk y=true
 hl:H rl=some (.lst (rd.map V.str))
 nq:rl≠a.pt
 ne:rd≠[]
 sb:∀ x∈rd,shOf nm x≠none
noncomputable def CSt.pickN (rd:List Str):CSt->Option Str
 | .st nm tg _ ck _ _=>pickF (fun x=>decide (x∈rd)) (fun x=>max ((tg x).getD 0) ck) (nm.map (·.1)) none
 | .rd _ q rs tu _=>pickX q rs tu rd
noncomputable def CSt.chosen (m:Int) (rd:List Str) (x:Str):CSt->CSt
 | .st nm tg gs ck _ N=>.st nm tg gs (max ((tg x).getD 0) ck) (.str x) N
 | .rd nm q rs tu _=>.rd nm (pickQ q rs tu rd x) (pickR m nm rs tu rd x) (some x) (.str x)
noncomputable def CSt.paid (x:Str) (len:Int):CSt->CSt
 | .st nm tg gs ck ch N=>.st nm (setS tg x (ck+(len:Rat) / (((shOf nm x).getD 1:Int):Rat))) (setS gs x (max ((gs x).getD 0) ((len:Rat) / (((shOf nm x).getD 1:Int):Rat)))) ck ch (N+2)
 | .rd nm q rs tu ch=>.rd nm q (putN rs x ((shOf rs x).getD 0-len)) tu ch
theorem CSt.nm_chosen {m:Int} {rd:List Str} {x:Str} (c:CSt):(c.chosen m rd x).nm=c.nm:=by cases c <;> rfl
theorem CSt.nm_paid {x:Str} {len:Int} (c:CSt):(c.paid x len).nm=c.nm:=by cases c <;> rfl
def CSt.Due (x:Str):CSt->Prop
 | .st _ _ _ _ ch _=>ch = .str x
 | .rd _ _ rs tu ch=>ch = .str x/\tu=some x/\∃ r,shOf rs x=some r/\0<r
theorem CSt.pick_some {m:Int} {c:CSt} (h:c.Ok m) {rd:List Str} (ne:rd≠[]) (sub:∀ x∈rd,shOf c.nm x≠none):∃ x,c.pickN rd=some x/\x∈rd/\(c.chosen m rd x).Ok m/\(c.chosen m rd x).Due x:=by
 cases c with
 | st nm tg gs ck ch N =>
  have hp:pickF (fun x=>decide (x∈rd)) (fun x=>max ((tg x).getD 0) ck) (nm.map (·.1)) none≠none:=by
   refine zid (.inr ?_)
   cases rd with
   | nil=>exact absurd rfl ne
   | cons y r=>exact ⟨y,Sw.sh_mem.mp (sub y (by simp)),by simp⟩
  cases e:pickF (fun x=>decide (x∈rd)) (fun x=>max ((tg x).getD 0) ck) (nm.map (·.1)) none with
  | none=>exact absurd e hp
  | some x =>
   refine ⟨x,e,?_,h,rfl⟩
   rcases zge e with ⟨_,q⟩ | q
   ·exact of_decide_eq_true q
   ·cases q
 | rd nm q rs tu ch =>
  obtain ⟨x,e,xr,ri,r,hr,r0⟩:=zwx h.2 ne sub
  exact ⟨x,e,xr,⟨h.1,ri⟩,rfl,rfl,r,hr,r0⟩
theorem CSt.Ok.paid {m:Int} {c:CSt} (h:c.Ok m) {x:Str} {len:Int} (d:c.Due x) (hx:shOf c.nm x≠none) (l0:1<=len) (l1:len<=m):(c.paid x len).Ok m:=by
 cases c with
 | st nm tg gs ck ch N =>
  refine ⟨h.1,fun y hy=>?_⟩
  show ∃ t g,setS tg x _ y=some t/\setS gs x _ y=some g
  unfold setS
  by_cases e:y=x
  ·rw [if_pos e,if_pos e]; exact ⟨_,_,rfl,rfl⟩
  ·rw [if_neg e,if_neg e]; exact h.2 y hy
 | rd nm q rs tu ch =>
  obtain ⟨_,d2,r,hr,r0⟩:=d
  refine ⟨h.1,?_⟩
  show Sw.RI m nm q (putN rs x ((shOf rs x).getD 0-len)) tu
  rw [hr]
  exact h.2.pays d2 hr r0 l0 l1
def CSt.Fine (p:Nat):CSt->Prop
 | .st _ tg gs ck _ _=>∃ G:Int,0<G/\Sw.Sz (20*p+1) G/\(Sw.Grd G ck/\0<=ck/\ck<=(((p:Int)*1000000:Int):Rat))/\(∀ x t,tg x=some t->Sw.Grd G t/\0<=t/\t<=(((p:Int)*1000000:Int):Rat))/\∀ x g,gs x=some g->0<=g/\Sw.SzQ 70 g
 | .rd ..=>True
theorem CSt.Fine.new (b:Bool):(CSt.new b).Fine 0:=by
 cases b with
 | true=>trivial
 | false=>exact ⟨1,by decide,Sw.Sz.one 0,⟨⟨0,by grind⟩,Rat.le_refl,Rat.le_refl⟩,fun x t e=>(by cases e),fun x g e=>(by cases e)⟩
theorem zsr {p p':Nat} (h:p<=p'):(((p:Int)*1000000:Int):Rat)<=(((p':Int)*1000000:Int):Rat):=Rat.intCast_le_intCast.mpr (by omega)
theorem zss (p:Nat):(0:Rat)<=(((p:Int)*1000000:Int):Rat):=by
 have:((0:Int):Rat)<=(((p:Int)*1000000:Int):Rat):=Rat.intCast_le_intCast.mpr (by omega)
 exact this
theorem CSt.Fine.mono {p p':Nat} {c:CSt} (h:c.Fine p) (l:p<=p'):c.Fine p':=by
 cases c with
 | st nm tg gs ck ch N =>
  obtain ⟨G,g0,gz,⟨c1,c2,c3⟩,ht,hg⟩:=h
  have:=zsr l
  exact ⟨G,g0,gz.mono (by omega),⟨c1,c2,Rat.le_trans c3 this⟩,fun x t e=>⟨(ht x t e).1,(ht x t e).2.1,Rat.le_trans (ht x t e).2.2 this⟩,hg⟩
 | rd=>trivial
theorem CSt.Fine.put {p:Nat} {c:CSt} (h:c.Fine p) (x:Str) (s:Int):(c.put x s).Fine p:=by
 cases c with
 | st nm tg gs ck ch N =>
  obtain ⟨G,g0,gz,hc,ht,hg⟩:=h
  refine ⟨G,g0,gz,hc,fun y t e=>?_,fun y g e=>?_⟩
  ·have e:setS tg x 0 y=some t:=e
   unfold setS at e
   split at e
   ·cases e; exact ⟨⟨0,by grind⟩,Rat.le_refl,zss p⟩
   ·exact ht y t e
  ·have e:setS gs x 0 y=some g:=e
   unfold setS at e
   split at e
   ·cases e
    exact ⟨Rat.le_refl,Sw.SzQ.int (n:=0) (z:=69) (Sw.Sz.r18 (by decide) (by decide))⟩
   ·exact hg y g e
 | rd=>trivial
theorem CSt.Fine.chosen {p:Nat} {c:CSt} (h:c.Fine p) (m:Int) (rd:List Str) (x:Str):(c.chosen m rd x).Fine p:=by
 cases c with
 | st nm tg gs ck ch N =>
  obtain ⟨G,g0,gz,hc,ht,hg⟩:=h
  refine ⟨G,g0,gz,?_,ht,hg⟩
  have h1:Sw.Grd G ((tg x).getD 0)/\0<=(tg x).getD 0/\(tg x).getD 0<=(((p:Int)*1000000:Int):Rat):=by
   cases e:tg x with
   | none=>exact ⟨⟨0,by show (0:Rat) = _; grind⟩,Rat.le_refl,zss p⟩
   | some t=>exact ht x t e
  rw [Rat.max_def]
  split
  ·exact hc
  ·exact h1
 | rd=>trivial
theorem CSt.Fine.paid {p:Nat} {c:CSt} (h:c.Fine p) {x:Str} {s len:Int} (hs:shOf c.nm x=some s) (s0:1<=s/\s<=1000000) (l0:0<=len) (l1:len<=1000000):(c.paid x len).Fine (p+1):=by
 cases c with
 | st nm tg gs ck ch N =>
  obtain ⟨G,g0,gz,⟨c1,c2,c3⟩,ht,hg⟩:=h
  have hs:shOf nm x=some s:=hs
  have sn:s≠0:=by omega
  have gn:G≠0:=by omega
  have sp:=Sw.q_cast_pos (show 0<s by omega)
  have le:=zsr (show p<=p+1 by omega)
  have d0:(0:Rat)<=(len:Rat) / (s:Rat):=by
   refine Rat.not_lt.mp fun z=>?_
   rw [Rat.div_lt_iff sp] at z
   have:((0:Int):Rat)<=(len:Rat):=Rat.intCast_le_intCast.mpr l0
   have e:((0:Int):Rat) = 0:=rfl
   grind
  have d1:(len:Rat) / (s:Rat)<=((1000000:Int):Rat):=by
   refine Rat.not_lt.mp fun z=>?_
   rw [Rat.lt_div_iff sp,<- Rat.intCast_mul,Rat.intCast_lt_intCast] at z
   omega
  have e1:(((p+1:Nat):Int)*1000000:Int)=(p:Int)*1000000+1000000:=by omega
  have dg:Sw.Grd (G*s) ((len:Rat) / (s:Rat)):=⟨len*G,by
   have h1:=Sw.q_cast_ne gn
   have h2:=Sw.q_cast_ne sn
   rw [Rat.intCast_mul,Rat.intCast_mul]
   grind⟩
  refine ⟨G*s,Int.mul_pos g0 (by omega),(gz.mul (show Sw.Sz 20 s by unfold Sw.Sz; omega)).mono (by omega),⟨c1.more gn sn,c2,Rat.le_trans c3 le⟩,fun y t e=>?_,fun y g e=>?_⟩
  ·have e:setS tg x (ck+(len:Rat) / (((shOf nm x).getD 1:Int):Rat)) y=some t:=e
   rw [hs] at e
   have e:setS tg x (ck+(len:Rat) / (s:Rat)) y=some t:=e
   unfold setS at e
   split at e
   ·cases e
    refine ⟨(c1.more gn sn).add dg,by grind,?_⟩
    rw [e1,Rat.intCast_add]
    grind
   ·obtain ⟨t1,t2,t3⟩:=ht y t e
    exact ⟨t1.more gn sn,t2,Rat.le_trans t3 le⟩
  ·have e:setS gs x (max ((gs x).getD 0) ((len:Rat) / (((shOf nm x).getD 1:Int):Rat))) y=some g:=e
   rw [hs] at e
   have e:setS gs x (max ((gs x).getD 0) ((len:Rat) / (s:Rat))) y=some g:=e
   unfold setS at e
   split at e
   ·cases e
    have h1:0<=(gs x).getD 0/\Sw.SzQ 70 ((gs x).getD 0):=by
     cases e:gs x with
     | none=>exact ⟨Rat.le_refl,Sw.SzQ.int (n:=0) (z:=69) (Sw.Sz.r18 (by decide) (by decide))⟩
     | some g=>exact hg x g e
    have h2:Sw.SzQ 70 ((len:Rat) / (s:Rat)):=Sw.SzQ.of sn rfl (Sw.Sz.r18 (by omega) (by omega)) (Sw.Sz.r18 (by omega) (by omega))
    rw [Rat.max_def]
    split
    ·exact ⟨d0,h2⟩
    ·exact h1
   ·exact hg y g e
 | rd=>trivial
theorem CSt.sz_chosen {m:Int} {rd:List Str} {x:Str} (c:CSt):(c.chosen m rd x).sz=c.sz:=by cases c <;> rfl
theorem CSt.sz_paid {x:Str} {len:Int} (c:CSt):(c.paid x len).sz<=c.sz+2:=by
 cases c with
 | st=>exact Nat.le_refl _
 | rd nm q rs tu ch=>show nm.length<=nm.length+2; omega
theorem zol {p:Nat} {G:Int} {q:Rat} (h:p<=120) (g0:0<G) (gz:Sw.Sz (20*p+1) G) (hq:Sw.Grd G q) (q0:0<=q) (q1:q<=(((p:Int)*1000000:Int):Rat)):Sw.SzQ 2490 q:=by
 have z:Sw.Sz 30 ((p:Int)*1000000):=by unfold Sw.Sz; omega
 refine (Sw.Grd.sz hq g0 gz z ?_ q1 (by decide)).mono (by omega)
 have:=zss p
 grind
def bksOf (ns:List ND) (ys:List Str):List BkS:=ys.filterMap fun y=>((fndN ns y).bind (·.bk)).map (·.2)
def May (D:TD) (x:Str) (u:Int):Prop:=∃ n ys g r,fndN D.ns x=some n/\n.qu=g :: r/\Up D.ns x ys/\∀ b∈bksOf D.ns ys,(g.2:Rat)<=b.lv u
def Rdy (D:TD) (u:Int) (y:Str):Prop:=∃ x ys,May D x u/\Up D.ns x ys/\y∈ys
open Classical in
noncomputable def rdl (c:CSt) (R:Str->Prop):List Str:=(c.nm.map (·.1)).filter fun y=>decide (R y)
open Classical in
theorem mem_rdl {c:CSt} {R:Str->Prop} {y:Str}:y∈rdl c R↔y∈c.nm.map (·.1)/\R y:=by
 unfold rdl
 rw [List.mem_filter,decide_eq_true_iff]
inductive Led (ns:List ND) (R:Str->Prop):List Str->Str->Prop
 | nil:Led ns R [] road
 | snoc {pre:List Str} {y z:Str} {n:ND} {c:At5×CSt}:Led ns R pre y->fndN ns y=some n->n.ch=some c->c.2.pickN (rdl c.2 R)=some z->Led ns R (y :: pre) z
theorem Up.child {ns:List ND} {x:Str} {ys:List Str} (h:Up ns x ys):∀ y∈ys,y=x\/∃ z∈ys,z∈kids ns y:=by
 induction h with
 | top h e=>intro y hy; exact .inl (List.mem_singleton.mp hy)
 | @on x y0 n ys h e k ih =>
  intro y hy
  rcases List.mem_cons.mp hy with q | q
  ·exact .inl q
  ·right
   rcases ih y q with z | ⟨z,hz,hk⟩
   ·obtain ⟨a,b⟩:=zas h
    exact ⟨x,List.mem_cons_self ..,List.mem_map.mpr ⟨n,List.mem_filter.mpr ⟨a,decide_eq_true (by rw [e,z])⟩,b⟩⟩
   ·exact ⟨z,List.mem_cons_of_mem _ hz,hk⟩
theorem zwy {ns:List ND} (nn:(ns.map (·.nm)).Nodup) {z y:Str} (h:z∈kids ns y):∃ n,fndN ns z=some n/\n.ab=some y:=by
 unfold kids at h
 obtain ⟨n,hn,e⟩:=List.mem_map.mp h
 obtain ⟨h1,h2⟩:=List.mem_filter.mp hn
 exact ⟨n,by rw [<- e]; exact zdy nn h1,of_decide_eq_true h2⟩
theorem Up.self {ns:List ND} {x:Str} {ys:List Str} (h:Up ns x ys):x∈ys:=by
 cases h <;> exact List.mem_cons_self ..
def TD.Lv (D:TD):Prop:=∀ n∈D.ns,n.qu≠[]->n.ch=none
section
variable {D:TD} {u:Int}
theorem May.leaf (L:D.Lv) {x:Str} (h:May D x u) {n:ND} (hn:fndN D.ns x=some n):n.ch=none/\n.qu≠[]:=by
 obtain ⟨n',ys,g,r,h1,h2,_⟩:=h
 rw [hn] at h1
 cases h1
 exact ⟨L n (zas hn).1 (by rw [h2]; simp),by rw [h2]; simp⟩
theorem Rdy.child (W:D.Wf) (L:D.Lv) {y:Str} (h:Rdy D u y) {n:ND} {c:At5×CSt} (hn:fndN D.ns y=some n) (hc:n.ch=some c):rdl c.2 (Rdy D u)≠[]:=by
 obtain ⟨x,ys,m,U,hy⟩:=h
 rcases U.child y hy with e | ⟨z,hz,hk⟩
 ·subst e
  rw [(m.leaf L hn).1] at hc; cases hc
 ·have:z∈rdl c.2 (Rdy D u):=mem_rdl.mpr ⟨by rw [W.kid n (zas hn).1 c hc,(zas hn).2]; exact hk,x,ys,m,U,hz⟩
  intro e
  rw [e] at this; cases this
theorem Rdy.leaf (W:D.Wf) {y:Str} (h:Rdy D u y) {n:ND} (hn:fndN D.ns y=some n) (hc:n.ch=none):May D y u:=by
 obtain ⟨x,ys,m,U,hy⟩:=h
 rcases U.child y hy with e | ⟨z,hz,hk⟩
 ·rw [e]; exact m
 ·obtain ⟨a,b⟩:=zas hn
  rw [<- b,W.lf n a hc] at hk; cases hk
theorem May.road (W:D.Wf) {x:Str} (h:May D x u):Rdy D u road:=by
 obtain ⟨n,ys,g,r,h1,h2,U,h3⟩:=h
 obtain ⟨zs,e⟩:=U.last W.ra
 exact ⟨x,ys,⟨n,ys,g,r,h1,h2,U,h3⟩,U,by rw [e]; simp⟩
end
noncomputable def CSt.pick1 (m:Int) (R:Str->Prop) (c:CSt):CSt:=match c.pickN (rdl c R) with
 | some z=>c.chosen m (rdl c R) z
 | none=>c
noncomputable def CSt.go (m:Int) (R:Str->Prop) (len:Int) (c:CSt):CSt:=match c.pickN (rdl c R) with
 | some z=>(c.chosen m (rdl c R) z).paid z len
 | none=>c
noncomputable def chN (m:Int) (R:Str->Prop) (S:List Str) (n:ND):ND:=if n.nm∈S then { n with ch:=n.ch.map fun c=>(c.1,c.2.pick1 m R) } else n
noncomputable def stN (m:Int) (R:Str->Prop) (S:List Str) (t len:Int) (n:ND):ND:=if n.nm∈S then { n with ch:=n.ch.map fun c=>(c.1,c.2.go m R len),bk:=n.bk.map fun b=>(b.1,b.2.pay t len),ps:=n.ps.tail,qu:=n.qu.tail } else n
noncomputable def midN (m:Int) (R:Str->Prop) (S:List Str) (x:Str) (T:List Str) (t len:Int) (n:ND):ND:=if n.nm∈T then stN m R S t len n else if n.nm=x then { chN m R S n with ps:=n.ps.tail,qu:=n.qu.tail } else chN m R S n
section
variable {m:Int} {R:Str->Prop} {S T:List Str} {x:Str} {t len:Int}
theorem zhi (n:ND):(chN m R S n).nm=n.nm:=by unfold chN; split <;> rfl
theorem zze (n:ND):(chN m R S n).ab=n.ab:=by unfold chN; split <;> rfl
theorem zsu (n:ND):(chN m R S n).bk=n.bk:=by unfold chN; split <;> rfl
theorem zzf (n:ND):(chN m R S n).qu=n.qu/\(chN m R S n).ps=n.ps/\(chN m R S n).ql=n.ql/\(chN m R S n).rm=n.rm:=by unfold chN; split <;> exact ⟨rfl,rfl,rfl,rfl⟩
theorem zwz (n:ND):chN m R [] n=n:=by unfold chN; rw [if_neg List.not_mem_nil]
theorem zpv (n:ND):(stN m R S t len n).nm=n.nm:=by unfold stN; split <;> rfl
theorem zvm (n:ND):(stN m R S t len n).ab=n.ab:=by unfold stN; split <;> rfl
theorem stN_p (n:ND):(stN m R S t len n).p=n.p/\(stN m R S t len n).ql=n.ql/\(stN m R S t len n).rm=n.rm:=by unfold stN; split <;> exact ⟨rfl,rfl,rfl⟩
theorem zjw (n:ND):(midN m R S x T t len n).nm=n.nm:=by
 unfold midN
 split
 ·exact zpv n
 ·split
  ·exact zhi n
  ·exact zhi n
theorem go_nm (c:CSt):(c.go m R len).nm=c.nm:=by
 unfold CSt.go
 split
 ·rw [CSt.nm_paid,CSt.nm_chosen]
 ·rfl
theorem zuj (c:CSt):(c.pick1 m R).nm=c.nm:=by
 unfold CSt.pick1
 split
 ·rw [CSt.nm_chosen]
 ·rfl
theorem zpw (n:ND):(stN m R S t len n).foot=n.foot:=by
 unfold stN
 split
 ·unfold ND.foot
  cases n.ch <;> cases n.bk <;> rfl
 ·rfl
theorem zhj (n:ND):(midN m R S x T t len n).foot=n.foot:=by
 unfold midN
 split
 ·exact zpw n
 ·unfold chN
  split
  ·split
   ·unfold ND.foot
    cases n.ch <;> rfl
   ·rfl
  ·split
   ·unfold ND.foot
    cases n.ch <;> rfl
   ·rfl
end
theorem zhk {ns:List ND} (nd:(ns.map (·.nm)).Nodup) {f g:ND->ND} {n n':ND} (hf:∀ y,(f y).nm=y.nm) (hn:n∈ns) (e:n'.nm=n.nm) (h1:g n=n') (h2:∀ y∈ns,y.nm≠n.nm->g y=f y):setN (ns.map f) n'=ns.map g:=by
 unfold setN
 rw [List.map_map]
 refine List.map_congr_left fun y hy=>?_
 show (if (f y).nm=n'.nm then n' else f y)=g y
 rw [hf,e]
 by_cases q:y.nm=n.nm
 ·rw [if_pos q]
  have a:=zdy nd hy
  rw [q,zdy nd hn] at a
  rw [<- Option.some.inj a,h1]
 ·rw [if_neg q,h2 y hy q]
theorem zjx {ns:List ND} {f:ND->ND} (hf:∀ y,(f y).nm=y.nm) (x:Str):fndN (ns.map f) x=(fndN ns x).map f:=by
 induction ns with
 | nil=>rfl
 | cons p r ih =>
  unfold fndN at ih ⊢
  rw [List.map_cons,List.find?_cons,List.find?_cons,hf]
  by_cases h:p.nm=x
  ·rw [decide_eq_true h]; rfl
  ·rw [decide_eq_false h]; exact ih
theorem zvn {ns:List ND} {f:ND->ND} (hf:∀ y,(f y).nm=y.nm) (ha:∀ y,(f y).ab=y.ab) {x:Str} {ys:List Str} (h:Up ns x ys):Up (ns.map f) x ys:=h.mono fun z _ n hn=>⟨f n,by rw [zjx hf,hn]; rfl,ha n⟩
theorem zpx {ns:List ND} {f:ND->ND} (hf:∀ y,(f y).nm=y.nm) (ha:∀ y,(f y).ab=y.ab) (x:Str):kids (ns.map f) x=kids ns x:=by
 unfold kids
 rw [List.filter_map,List.map_map]
 have:(fun n:ND=>decide (n.ab=some x)) ∘ f=fun n=>decide (n.ab=some x):=by
  funext n
  show decide ((f n).ab=some x) = _
  rw [ha]
 rw [this]
 refine List.map_congr_left fun n _=>hf n
theorem TD.Wf.map {D:TD} (W:D.Wf) {f:ND->ND} (hf:∀ y,(f y).nm=y.nm) (ha:∀ y,(f y).ab=y.ab) (hc:∀ n∈D.ns,∀ c',(f n).ch=some c'->∃ c,n.ch=some c/\c'.2.nm=c.2.nm/\c'.2.Ok D.most) (hn:∀ n∈D.ns,(f n).ch=none->n.ch=none):{ D with ns:=D.ns.map f }.Wf:=by
 have en:(D.ns.map f).map (·.nm)=D.ns.map (·.nm):=by
  rw [List.map_map]
  exact List.map_congr_left fun y _=>hf y
 refine ⟨by show ((D.ns.map f).map (·.nm)).Nodup; rw [en]; exact W.nn,?_,fun y hy ea=>?_,fun y hy=>?_,fun y hy c hcy=>?_,fun y hy hcy=>?_,fun y hy c hcy=>?_,W.m1,fun y hy=>?_⟩
 ·obtain ⟨r,rs,er,r1,r2,r3⟩:=W.rd
  refine ⟨f r,rs.map f,by show D.ns.map f = _; rw [er]; rfl,by rw [hf]; exact r1,by rw [ha]; exact r2,fun z=>r3 (hn r (by rw [er]; exact List.mem_cons_self ..) z)⟩
 ·obtain ⟨z,hz,rfl⟩:=List.mem_map.mp hy
  rw [hf]; rw [ha] at ea
  exact W.ra z hz ea
 ·obtain ⟨z,hz,rfl⟩:=List.mem_map.mp hy
  obtain ⟨ys,U,l⟩:=W.up z hz
  exact ⟨ys,by rw [hf]; exact zvn hf ha U,l⟩
 ·obtain ⟨z,hz,rfl⟩:=List.mem_map.mp hy
  obtain ⟨c0,e0,e1,_⟩:=hc z hz c hcy
  show c.2.nm.map (·.1)=kids (D.ns.map f) (f z).nm
  rw [zpx hf ha,hf,e1]
  exact W.kid z hz c0 e0
 ·obtain ⟨z,hz,rfl⟩:=List.mem_map.mp hy
  show kids (D.ns.map f) (f z).nm = []
  rw [zpx hf ha,hf]
  exact W.lf z hz (hn z hz hcy)
 ·obtain ⟨z,hz,rfl⟩:=List.mem_map.mp hy
  obtain ⟨c0,e0,e1,e2⟩:=hc z hz c hcy
  exact e2
 ·obtain ⟨z,hz,rfl⟩:=List.mem_map.mp hy
  rw [hf]; exact W.sok z hz
def waits (ns:List ND):Nat:=(ns.map fun n=>n.qu.length).sum
structure TD.Dy (D:TD) (τ:Int) (v:Nat):Prop where
 W:D.Wf
 fin:∀ n∈D.ns,∀ c,n.ch=some c->c.2.Fine D.gs.length/\c.2.sz<=3*v+2*D.gs.length
 bk:∀ n∈D.ns,∀ b,n.bk=some b->BkOk D.most b.2/\b.2.s<=τ
 lv:D.Lv
 qu:∀ n∈D.ns,∀ g∈n.qu,1<=g.2/\g.2<=D.most
 bud:waits D.ns+D.gs.length<=120
 ln:D.ns.length<=60
 vl:v<=180
theorem TD.Dy.fit {D:TD} {τ:Int} {v:Nat} (h:D.Dy τ v):D.fit:=⟨h.ln,fun n hn c hc=>by have:=(h.fin n hn c hc).2; have:=h.bud; have:=h.vl; omega⟩
theorem zsv {ns:List ND} {n:ND} (h:n∈ns):n.qu.length<=waits ns:=by
 induction ns with
 | nil=>cases h
 | cons p r ih =>
  unfold waits at ih ⊢
  rw [List.map_cons,List.sum_cons]
  rcases List.mem_cons.mp h with q | q
  ·rw [q]; omega
  ·have:=ih q; omega
noncomputable def TD.step (D:TD) (R:Str->Prop) (S:List Str) (x:Str) (t:Int) (g:D2) (p:Addr):TD:={ D with ns:=D.ns.map (stN D.most R S t g.2),fr:=t+g.2,gp:=D.gp++[p],gs:=D.gs++[(t,g.1,x)] }
structure Goes (D:TD) (t:Int) (x:Str) (pre:List Str) (g:D2):Prop where
 led:Led D.ns (Rdy D t) pre x
 may:May D x t
 up:Up D.ns x (x :: pre)
 q:∃ n r,fndN D.ns x=some n/\n.ch=none/\n.qu=g :: r/\∀ b∈bksOf D.ns (x :: pre),(g.2:Rat)<=b.lv t
def fullL (ns:List ND):List Str:=(ns.filter fun n=>decide (n.ps≠[])).map (·.nm)
theorem znp {ns:List ND} (nn:(ns.map (·.nm)).Nodup) {x:Str}:x∈fullL ns↔∃ n,fndN ns x=some n/\n.ps≠[]:=by
 unfold fullL
 rw [List.mem_map]
 constructor
 ·rintro ⟨n,hn,e⟩
  obtain ⟨h1,h2⟩:=List.mem_filter.mp hn
  exact ⟨n,by rw [<- e]; exact zdy nn h1,of_decide_eq_true h2⟩
 ·rintro ⟨n,hn,h⟩
  exact ⟨n,List.mem_filter.mpr ⟨(zas hn).1,decide_eq_true h⟩,(zas hn).2⟩
def rdK (ks:List Str):List (Key×V):=ks.map fun y=>((Sum.inr y:Key),V.bl true)
def addK (ks:List Str) (y:Str):List Str:=if y∈ks then ks else ks++[y]
theorem zuk {ks:List Str} {y z:Str}:z∈addK ks y↔z∈ks\/z=y:=by
 unfold addK
 split
 ·rename_i h
  constructor
  ·exact .inl
  ·rintro (q | q)
   ·exact q
   ·rw [q]; exact h
 ·rw [List.mem_append,List.mem_singleton]
theorem zul (ks:List Str) (y:Str):(addK ks y).length<=ks.length+1:=by
 unfold addK
 split
 ·omega
 ·rw [List.length_append]; exact Nat.le_refl _
theorem zxa (ks:List Str) (y:Str):putK (rdK ks) (Sum.inr y:Key) (.bl true)=rdK (addK ks y):=by
 unfold putK addK
 have e:((rdK ks).any fun kv=>decide (kv.1=(Sum.inr y:Key)))=decide (y∈ks):=by
  unfold rdK
  rw [List.any_map,Bool.eq_iff_iff,List.any_eq_true,decide_eq_true_iff]
  constructor
  ·rintro ⟨z,hz,q⟩
   have q:(Sum.inr z:Key)=Sum.inr y:=of_decide_eq_true q
   rw [<- Sum.inr.inj q]; exact hz
  ·intro h
   exact ⟨y,h,decide_eq_true rfl⟩
 rw [e]
 by_cases h:y∈ks
 ·rw [if_pos h,if_pos (decide_eq_true h)]
  unfold rdK
  rw [List.map_map]
  refine List.map_congr_left fun z _=>?_
  show (if (Sum.inr z:Key)=Sum.inr y then ((Sum.inr z:Key),V.bl true) else (Sum.inr z,V.bl true)) = _
  split <;> rfl
 ·rw [if_neg h,if_neg (by simp [h])]
  unfold rdK
  rw [List.map_append]; rfl
theorem zxb (ks:List Str) (y:Str):(valV (rdK ks) (Sum.inr y:Key)).isSome=decide (y∈ks):=by
 induction ks with
 | nil=>rfl
 | cons z r ih =>
  unfold rdK at ih ⊢
  rw [List.map_cons]
  by_cases h:z=y
  ·subst h
   rw [zdz rfl]
   simp
  ·rw [zea (fun q=>h (Sum.inr.inj q)),ih]
   simp [Ne.symm h]
structure Nx (D:TD) (a:Int):Prop where
 may:∃ x,May D x a
 ge:D.tm<=a/\D.fr<=a
 le:∀ x u,D.tm<=u->D.fr<=u->May D x u->a<=u
def Rest (D:TD) (t:Int):Prop:=∀ x u,D.tm<=u->D.fr<=u->May D x u->t<=u
inductive Runs (t:Int):TD->TD->Prop
 | stop {D:TD}:Rest D t->Runs t D D
 | go {D D':TD} {a:Int} {x:Str} {pre:List Str} {g:D2} {p:Addr}:Nx D a->a<t->Goes D a x pre g->Runs t (D.step (Rdy D a) (x :: pre) x a g p) D'->Runs t D D'
end L2
def L2.NoB (D:L2.TD):Prop:=∀ n∈D.ns,n.bk=none
namespace L2
open PySem PySem.Spec PyProof.Rows
def bvs (ns:List ND) (ys:List Str):List V:=ys.map fun y=>bkV ((fndN ns y).bind (·.bk))
theorem znq {D:TD} (h:NoB D) (ys:List Str):bksOf D.ns ys = []:=by
 unfold bksOf
 rw [List.filterMap_eq_nil_iff]
 intro y _
 cases e:fndN D.ns y with
 | none=>rfl
 | some n=>show Option.map _ n.bk=none; rw [h n (zas e).1]; rfl
theorem zxc {D:TD} (h:NoB D) (ys:List Str):bvs D.ns ys=ys.map fun _=>V.non:=by
 unfold bvs
 refine List.map_congr_left fun y _=>?_
 cases e:fndN D.ns y with
 | none=>rfl
 | some n=>show bkV n.bk = .non; rw [h n (zas e).1]; rfl
theorem LfT.nil (t len:Int):LfT [] t len t:=⟨Int.le_refl _,fun b hb=>absurd hb List.not_mem_nil,fun _ h _=>h⟩
theorem zxd {ns:List ND} {ys:List Str} {b:BkS} (h:b∈bksOf ns ys):∃ y∈ys,∃ n a,fndN ns y=some n/\n.bk=some (a,b):=by
 unfold bksOf at h
 obtain ⟨y,hy,e⟩:=List.mem_filterMap.mp h
 cases hn:fndN ns y with
 | none=>rw [hn] at e; cases e
 | some n =>
  rw [hn] at e
  cases hb:n.bk with
  | none=>rw [show (some n).bind (fun z:ND=>z.bk)=n.bk from rfl,hb] at e; cases e
  | some c =>
   rw [show (some n).bind (fun z:ND=>z.bk)=n.bk from rfl,hb] at e
   exact ⟨y,hy,n,c.1,hn,by rw [hb,<- Option.some.inj e]⟩
theorem zsw {ns:List ND} {ys:List Str} {y:Str} {n:ND} {c:Addr×BkS} (hy:y∈ys) (hn:fndN ns y=some n) (hb:n.bk=some c):c.2∈bksOf ns ys:=by
 unfold bksOf
 refine List.mem_filterMap.mpr ⟨y,hy,?_⟩
 rw [hn]
 show Option.map _ n.bk = _
 rw [hb]; rfl
theorem zom {D:TD} {x:Str} {n:ND} {g:D2} {r:List D2} {ys:List Str} (hx:fndN D.ns x=some n) (hq:n.qu=g :: r) (U:Up D.ns x ys) (t:Int):May D x t↔∀ b∈bksOf D.ns ys,(g.2:Rat)<=b.lv t:=by
 constructor
 ·rintro ⟨n',ys',g',r',h1,h2,h3,h4⟩
  rw [hx] at h1; cases h1
  rw [hq] at h2; cases h2
  rw [U.det h3]; exact h4
 ·intro h
  exact ⟨n,ys,g,r,hx,hq,U,h⟩
theorem TD.Dy.leaf {D:TD} {τ:Int} {v:Nat} (h:D.Dy τ v) {C:Cl} {H:Hp} (O:TrOk C H D) {x:Str} (hx:x∈fullL D.ns):∃ n g r ys,fndN D.ns x=some n/\n.qu=g :: r/\Up D.ns x ys/\ys.length<=6/\(1<=g.2/\g.2<=D.most/\D.most<=1000000)/\∀ b∈bksOf D.ns ys,BkOk D.most b/\b.s<=τ:=by
 obtain ⟨n,hn,np⟩:=(znp h.W.nn).mp hx
 obtain ⟨nin,ne⟩:=zas hn
 have ln:=(O.nd n nin).qu.r.len
 cases hq:n.qu with
 | nil =>
  rw [hq] at ln
  exact absurd (List.eq_nil_of_length_eq_zero ln) np
 | cons g r =>
  obtain ⟨ys,U,yl⟩:=h.W.up n nin
  rw [ne] at U
  have gb:=h.qu n nin g (by rw [hq]; exact List.mem_cons_self ..)
  refine ⟨n,g,r,ys,hn,hq,U,yl,⟨gb.1,gb.2,h.W.m1.2⟩,fun b hb=>?_⟩
  obtain ⟨y,_,m,a,hm,hmb⟩:=zxd hb
  exact h.bk m (zas hm).1 _ hmb
theorem TD.Dy.full {D:TD} {τ:Int} {v:Nat} (h:D.Dy τ v) {C:Cl} {H:Hp} (O:TrOk C H D) {x:Str} {t:Int} (m:May D x t):x∈fullL D.ns:=by
 obtain ⟨n,ys,g,r,h1,h2,_⟩:=m
 refine (znp h.W.nn).mpr ⟨n,h1,fun z=>?_⟩
 have ln:=(O.nd n (zas h1).1).qu.r.len
 rw [z,h2] at ln; cases ln
def LfOf (D:TD) (t:Int) (x:Str) (a:Int):Prop:=∃ n g r ys,fndN D.ns x=some n/\n.qu=g :: r/\Up D.ns x ys/\LfT (bksOf D.ns ys) t g.2 a/\a<=t+1000000000000
theorem LfOf.may {D:TD} {t a:Int} {x:Str} (h:LfOf D t x a):May D x a/\t<=a/\∀ u,t<=u->May D x u->a<=u:=by
 obtain ⟨n,g,r,ys,h1,h2,h3,h4,_⟩:=h
 exact ⟨(zom h1 h2 h3 a).mpr h4.ok,h4.ge,fun u tu m=>h4.le u tu ((zom h1 h2 h3 u).mp m)⟩
theorem zll {α β:Type} {R:α->β->Prop}:∀ {l:List α} {k:List β},Paired R l k->∀ b∈k,∃ a∈l,R a b
 | _,_,.nil,b,hb=>absurd hb List.not_mem_nil
 | _,_,.cons h t,b,hb=>by
  rcases List.mem_cons.mp hb with q | q
  ·exact ⟨_,List.mem_cons_self ..,q ▸ h⟩
  ·obtain ⟨a,ha,r⟩:=zll t b q
   exact ⟨a,List.mem_cons_of_mem _ ha,r⟩
theorem zjy {α β:Type} {R:α->β->Prop}:∀ {l:List α} {k:List β},Paired R l k->∀ a∈l,∃ b∈k,R a b
 | _,_,.nil,b,hb=>absurd hb List.not_mem_nil
 | _,_,.cons h t,b,hb=>by
  rcases List.mem_cons.mp hb with q | q
  ·exact ⟨_,List.mem_cons_self ..,q ▸ h⟩
  ·obtain ⟨a,ha,r⟩:=zjy t b q
   exact ⟨a,List.mem_cons_of_mem _ ha,r⟩
theorem zsx {ns:List ND} (nd:(ns.map (·.nm)).Nodup) {n:ND} (hn:n∈ns):setN ns n=ns:=by
 have:=zhk (ns:=ns) nd (f:=id) (g:=id) (n:=n) (n':=n) (fun _=>rfl) hn rfl rfl (fun _ _ _=>rfl)
 rwa [List.map_id] at this
def CSt.cho:CSt->Str
 | .st _ _ _ _ (.str x) _=>x
 | .rd _ _ _ _ (.str x)=>x
 | _=>road
def CSt.PayOk:CSt->Prop
 | .st nm tg gs ck ch N=>∃ x s g,ch = .str x/\shOf nm x=some s/\(1<=s/\s<=1000000)/\tg x≠none/\gs x=some g/\Sw.SzQ 70 g/\Sw.SzQ 2490 ck/\N<890
 | .rd _ _ rs _ ch=>∃ x r,ch = .str x/\shOf rs x=some r/\rs.length<90
noncomputable def ND.chg (t len:Int) (n:ND):ND:={ n with ch:=n.ch.map fun c=>(c.1,c.2.paid c.2.cho len),bk:=n.bk.map fun b=>(b.1,b.2.pay t len) }
theorem CSt.Due.cho {x:Str} {c:CSt} (h:c.Due x):c.cho=x:=by
 cases c with
 | st nm tg gs ck ch N =>
  have h:ch = .str x:=h
  rw [h]; rfl
 | rd nm q rs tu ch =>
  have h:ch = .str x:=h.1
  rw [h]; rfl
theorem CSt.payOk {m:Int} {p:Nat} {x:Str} {c:CSt} (h:c.Ok m) (f:c.Fine p) (p1:p<=120) (d:c.Due x) (hx:shOf c.nm x≠none) (sz:c.sz<890) (nl:c.nm.length<90):c.PayOk:=by
 cases c with
 | st nm tg gs ck ch N =>
  obtain ⟨G,g0,gz,⟨c1,c2,c3⟩,ht,hg⟩:=f
  have hx:shOf nm x≠none:=hx
  cases e:shOf nm x with
  | none=>exact absurd e hx
  | some s =>
   obtain ⟨t,g,e1,e2⟩:=h.2 x hx
   exact ⟨x,s,g,d,e,h.1.sh x s e,by rw [e1]; simp,e2,(hg x g e2).2,zol p1 g0 gz c1 c2 c3,sz⟩
 | rd nm q rs tu ch =>
  obtain ⟨d1,d2,r,hr,_⟩:=d
  refine ⟨x,r,d1,hr,?_⟩
  have:=zpu h.2
  have nl:nm.length<90:=nl
  omega
section
variable {C:Cl} {H H':Hp} {D:TD}
theorem TrOk.gone (h:TrOk C H D) {p:Addr} {g:D3} (hp:H p=some (.tup (d3V g))):TrOk C (upd H D.pg (.lst ((D.gp++[p]).map V.ref))) { D with gp:=D.gp++[p],gs:=D.gs++[g] }:=by
 have fd:=h.fd
 unfold TD.foot at fd
 simp only [List.nodup_cons,List.mem_cons,not_or] at fd
 have kp:∀ b o,b≠D.pg->H b=some o->upd H D.pg (.lst ((D.gp++[p]).map V.ref)) b=some o:=fun b o q e=>by rw [zai q]; exact e
 have tp:∀ {b xs},H b=some (.tup xs)->b≠D.pg:=fun {b xs} e z=>by rw [z,h.go] at e; cases e
 obtain ⟨dx,fs,h1,h2⟩:=h.ex
 refine ⟨⟨dx,fs,kp _ _ fd.1.2.1 h1,h2⟩,kp _ _ fd.2.1.1 h.hn,fun x hx=>(h.nd x hx).keep fun b o hb e=>kp b o ?_ e,zac,zfa (F:=fun a b=>upd H D.pg (.lst ((D.gp++[p]).map V.ref)) a=some (.tup (d3V b))) (kp _ _ (tp hp) hp) (zdq (fun a b z=>kp _ _ (tp z) z) h.gr),h.fd⟩
 rcases hb with q | ⟨xs,q⟩
 ·exact (h.apart hx q).2.2
 ·exact tp q
end
theorem zpy {D:TD} {f:ND->ND} (hf:∀ n,(f n).foot=n.foot):TD.foot { D with ns:=D.ns.map f } = D.foot:=by
 unfold TD.foot
 show D.p :: D.pn :: D.pg :: (D.ns.map f).flatMap ND.foot = _
 rw [List.flatMap_map,show (fun a=>ND.foot (f a))=ND.foot from funext hf]
theorem Up.suffix {ns:List ND} {x:Str} {ys:List Str} (h:Up ns x ys):∀ {as:List Str} {y:Str} {bs:List Str},ys=as++y :: bs->Up ns y (y :: bs):=by
 induction h with
 | @top x n h e =>
  intro as y bs q
  cases as with
  | nil=>cases q; exact .top h e
  | cons a r =>
   have:=congrArg List.length q
   simp at this
 | @on x y0 n ys h e k ih =>
  intro as y bs q
  cases as with
  | nil=>cases q; exact .on h e k
  | cons a r =>
   rw [List.cons_append] at q
   exact ih (List.cons.inj q).2
theorem Up.nodup {ns:List ND} {x:Str} {ys:List Str} (h:Up ns x ys):ys.Nodup:=by
 induction h with
 | top h e=>simp
 | @on x y0 n ys h e k ih =>
  rw [List.nodup_cons]
  refine ⟨fun z=>?_,ih⟩
  obtain ⟨as,bs,q⟩:=List.append_of_mem z
  have u1:=k.suffix q
  have u2:Up ns x (x :: ys):=.on h e k
  have:=congrArg List.length (u1.det u2)
  rw [q] at this
  simp at this
  omega
theorem Led.inn {ns:List ND} {R:Str->Prop} {pre:List Str} {x:Str} (h:Led ns R pre x):∀ y∈pre,∃ n c z,fndN ns y=some n/\n.ch=some c/\c.2.pickN (rdl c.2 R)=some z:=by
 induction h with
 | nil=>intro y hy; cases hy
 | @snoc pre y z n c _ h1 h2 h3 ih =>
  intro y' hy
  rcases List.mem_cons.mp hy with q | q
  ·rw [q]; exact ⟨n,c,z,h1,h2,h3⟩
  ·exact ih y' q
theorem zjz {rd:List Str} {z:Str}:∀ {c:CSt},c.pickN rd=some z->z∈rd
 | .st nm tg gs ck ch N,h=>by
  have h:pickF (fun x=>decide (x∈rd)) (fun x=>max ((tg x).getD 0) ck) (nm.map (·.1)) none=some z:=h
  rcases zge h with ⟨_,q⟩ | q
  ·exact of_decide_eq_true q
  ·cases q
 | .rd nm q rs tu ch,h=>by
  have h:pickX q rs tu rd=some z:=h
  unfold pickX at h
  by_cases c:keepT rs rd tu=true
  ·rw [if_pos c] at h
   subst h
   rw [zet,Bool.and_eq_true,decide_eq_true_eq] at c
   exact c.1
  ·rw [if_neg c] at h
   exact of_decide_eq_true (List.find?_some (p:=fun x=>decide (x∈rd)) h)
section
variable {D:TD} {R:Str->Prop} {t len:Int} {x:Str}
theorem zje {τ:Int} {v:Nat} (Y:D.Dy τ v) {n:ND} (nin:n∈D.ns) {c:At5×CSt} (hc:n.ch=some c) {z:Str} (hz:c.2.pickN (rdl c.2 R)=some z):(c.2.pick1 D.most R)=c.2.chosen D.most (rdl c.2 R) z/\(c.2.pick1 D.most R).Ok D.most/\(c.2.pick1 D.most R).Due z/\(c.2.pick1 D.most R).PayOk/\shOf c.2.nm z≠none/\((c.2.pick1 D.most R).paid z len=c.2.go D.most R len):=by
 have e:c.2.pick1 D.most R=c.2.chosen D.most (rdl c.2 R) z:=by unfold CSt.pick1; rw [hz]
 have ne:rdl c.2 R≠[]:=fun q=>by have:=zjz hz; rw [q] at this; cases this
 have cok:=Y.W.cok n nin c hc
 have sub:∀ y∈rdl c.2 R,shOf c.2.nm y≠none:=fun y hy=>Sw.sh_mem.mpr (mem_rdl.mp hy).1
 obtain ⟨z',e1,e2,e3,e4⟩:=CSt.pick_some cok ne sub
 rw [hz] at e1
 cases e1
 have hs:=sub z e2
 obtain ⟨f1,f2⟩:=Y.fin n nin c hc
 have:=Y.bud
 have:=Y.vl
 have kl:=Y.W.kid_len nin hc
 have:=Y.ln
 rw [e]
 refine ⟨rfl,e3,e4,CSt.payOk e3 (f1.chosen D.most _ z) (by omega) e4 (by rw [CSt.nm_chosen]; exact hs) (by rw [CSt.sz_chosen]; omega) (by rw [CSt.nm_chosen]; omega),hs,?_⟩
 unfold CSt.go
 rw [hz]
theorem Lv.ps {C:Cl} {H:Hp} (O:TrOk C H D) (L:D.Lv) {n:ND} (nin:n∈D.ns) (hc:n.ch≠none):n.qu = []/\n.ps = []:=by
 have q:n.qu = []:=Classical.byContradiction fun z=>hc (L n nin z)
 refine ⟨q,?_⟩
 have ln:=(O.nd n nin).qu.r.len
 rw [q] at ln
 exact List.eq_nil_of_length_eq_zero ln
end
theorem zxe {D:TD} {t:Int} {x:Str} {pre:List Str} {g:D2} {v:Nat} (Y:D.Dy t v) (G:Goes D t x pre g) (hps:∀ n∈D.ns,n.ch≠none->n.qu = []/\n.ps = []) {T:List Str} {n:ND} (nin:n∈D.ns) (hn:n.nm∈x :: pre) (hT:n.nm ∉ T):(midN D.most (Rdy D t) (x :: pre) x T t g.2 n).chg t g.2=stN D.most (Rdy D t) (x :: pre) t g.2 n:=by
 obtain ⟨nx,r,hx,hcx,hqx,_⟩:=G.q
 unfold midN
 rw [if_neg hT]
 by_cases e:n.nm=x
 ·have:n=nx:=by
   have:=zdy Y.W.nn nin
   rw [e,hx] at this
   exact (Option.some.inj this).symm
  subst this
  rw [if_pos e]
  unfold chN stN ND.chg
  rw [if_pos hn,if_pos hn,hcx]
  rfl
 ·rw [if_neg e]
  have hp:n.nm∈pre:=(List.mem_cons.mp hn).resolve_left e
  obtain ⟨n',c,z,h1,h2,h3⟩:=G.led.inn n.nm hp
  rw [zdy Y.W.nn nin] at h1
  cases h1
  obtain ⟨q1,q2⟩:=hps n nin (by rw [h2]; simp)
  obtain ⟨p1,p2,p3,p4,p5,p6⟩:=zje (R:=Rdy D t) (len:=g.2) Y nin h2 h3
  unfold chN stN ND.chg
  rw [if_pos hn,if_pos hn,h2]
  show ({ n with ch:=some (c.1,(c.2.pick1 D.most (Rdy D t)).paid (c.2.pick1 D.most (Rdy D t)).cho g.2),bk:=n.bk.map fun b=>(b.1,b.2.pay t g.2) }:ND) = { n with ch:=some (c.1,c.2.go D.most (Rdy D t) g.2),bk:=n.bk.map fun b=>(b.1,b.2.pay t g.2),ps:=n.ps.tail,qu:=n.qu.tail }
  rw [p3.cho,p6,q1,q2]
  obtain ⟨a1,a2,a3,a4,a5,a6,a7,a8,a9⟩:=n
  cases q1
  cases q2
  rfl
theorem zhl {f:ND->ND}:∀ {ns:List ND},(∀ n∈ns,(f n).qu.length<=n.qu.length)->waits (ns.map f)<=waits ns
 | [],_=>Nat.le_refl _
 | p :: r,h=>by
  have:=zhl (f:=f) (ns:=r) fun n hn=>h n (List.mem_cons_of_mem _ hn)
  have h0:=h p (List.mem_cons_self ..)
  unfold waits at this ⊢
  rw [List.map_cons,List.map_cons,List.map_cons,List.sum_cons,List.sum_cons]
  omega
theorem zpz {f:ND->ND}:∀ {ns:List ND},(∀ n∈ns,(f n).qu.length<=n.qu.length)->(∃ n∈ns,(f n).qu.length<n.qu.length)->waits (ns.map f)+1<=waits ns
 | [],_,⟨n,hn,_⟩=>absurd hn List.not_mem_nil
 | p :: r,h,⟨n,hn,l⟩=>by
  have h0:=h p (List.mem_cons_self ..)
  have h1:∀ n∈r,(f n).qu.length<=n.qu.length:=fun n hn=>h n (List.mem_cons_of_mem _ hn)
  rcases List.mem_cons.mp hn with q | q
  ·subst q
   have:=zhl h1
   unfold waits at this ⊢
   rw [List.map_cons,List.map_cons,List.map_cons,List.sum_cons,List.sum_cons]
   omega
  ·have:=zpz h1 ⟨n,q,l⟩
   unfold waits at this ⊢
   rw [List.map_cons,List.map_cons,List.map_cons,List.sum_cons,List.sum_cons]
   omega
theorem Goes.dy {D:TD} {t τ:Int} {v:Nat} {x:Str} {pre:List Str} {g:D2} (Y:D.Dy τ v) (G:Goes D t x pre g) (τt:τ<=t) (p:Addr):(D.step (Rdy D t) (x :: pre) x t g p).Dy t v/\waits (D.step (Rdy D t) (x :: pre) x t g p).ns+1<=waits D.ns:=by
 obtain ⟨nx,r,hx,hcx,hqx,hbx⟩:=G.q
 obtain ⟨xin,xe⟩:=zas hx
 have gb:=Y.qu nx xin g (by rw [hqx]; exact List.mem_cons_self ..)
 have m6:=Y.W.m1.2
 have chk:∀ n∈D.ns,∀ c',(stN D.most (Rdy D t) (x :: pre) t g.2 n).ch=some c'->∃ c,n.ch=some c/\c'.2.nm=c.2.nm/\c'.2.Ok D.most/\c'.2.Fine (D.gs.length+1)/\c'.2.sz<=3*v+2*(D.gs.length+1):=fun n nin c' hc'=>by
  have old:∀ c,n.ch=some c->c'=c->∃ c,n.ch=some c/\c'.2.nm=c.2.nm/\c'.2.Ok D.most/\c'.2.Fine (D.gs.length+1)/\c'.2.sz<=3*v+2*(D.gs.length+1):=fun c hc e=>by
   subst e
   obtain ⟨f1,f2⟩:=Y.fin n nin _ hc
   exact ⟨_,hc,rfl,Y.W.cok n nin _ hc,f1.mono (by omega),by omega⟩
  unfold stN at hc'
  by_cases q:n.nm∈x :: pre
  ·rw [if_pos q] at hc'
   cases hc:n.ch with
   | none=>rw [hc] at hc'; cases hc'
   | some c =>
    rw [hc] at hc'
    obtain rfl:(c.1,c.2.go D.most (Rdy D t) g.2)=c':=Option.some.inj hc'
    cases hz:c.2.pickN (rdl c.2 (Rdy D t)) with
    | none =>
     have e:c.2.go D.most (Rdy D t) g.2=c.2:=by unfold CSt.go; rw [hz]
     rw [hc] at old
     exact old c rfl (by rw [e])
    | some z =>
     obtain ⟨p1,p2,p3,p4,p5,p6⟩:=zje (R:=Rdy D t) (len:=g.2) Y nin hc hz
     obtain ⟨f1,f2⟩:=Y.fin n nin c hc
     have en:(c.2.pick1 D.most (Rdy D t)).nm=c.2.nm:=zuj _
     refine ⟨c,rfl,go_nm _,?_,?_,?_⟩
     ·show (c.2.go D.most (Rdy D t) g.2).Ok D.most
      rw [<- p6]
      exact p2.paid p3 (by rw [en]; exact p5) gb.1 gb.2
     ·show (c.2.go D.most (Rdy D t) g.2).Fine _
      rw [<- p6,p1]
      cases hs:shOf c.2.nm z with
      | none=>exact absurd hs p5
      | some s=>exact (f1.chosen D.most _ z).paid (s:=s) (by rw [CSt.nm_chosen]; exact hs) ((Y.W.cok n nin c hc).gnm.sh z s hs) (by omega) (by omega)
     ·show (c.2.go D.most (Rdy D t) g.2).sz<=_
      rw [<- p6,p1]
      have:=CSt.sz_paid (x:=z) (len:=g.2) (c.2.chosen D.most (rdl c.2 (Rdy D t)) z)
      rw [CSt.sz_chosen] at this
      omega
  ·rw [if_neg q] at hc'
   exact old c' hc' rfl
 have chn:∀ n∈D.ns,(stN D.most (Rdy D t) (x :: pre) t g.2 n).ch=none->n.ch=none:=fun n _ h=>by
  unfold stN at h
  split at h
  ·cases hc:n.ch with
   | none=>rfl
   | some c=>rw [hc] at h; cases h
  ·exact h
 have W':=Y.W.map (f:=stN D.most (Rdy D t) (x :: pre) t g.2) zpv zvm (fun n nin c' h=>by obtain ⟨c,a,b,d,_⟩:=chk n nin c' h; exact ⟨c,a,b,d⟩) chn
 have ql:∀ n,(stN D.most (Rdy D t) (x :: pre) t g.2 n).qu=n.qu\/(stN D.most (Rdy D t) (x :: pre) t g.2 n).qu=n.qu.tail:=fun n=>by
  unfold stN
  split
  ·exact .inr rfl
  ·exact .inl rfl
 have wl:waits (D.step (Rdy D t) (x :: pre) x t g p).ns+1<=waits D.ns:=by
  refine zpz (fun n _=>?_) ⟨nx,xin,?_⟩
  ·rcases ql n with q | q
   ·rw [q]; exact Nat.le_refl _
   ·rw [q,List.length_tail]; omega
  ·unfold stN
   rw [if_pos (by rw [xe]; exact List.mem_cons_self ..)]
   show nx.qu.tail.length < _
   rw [hqx]; simp
 have gl:(D.step (Rdy D t) (x :: pre) x t g p).gs.length=D.gs.length+1:=by
  show (D.gs++[_]).length = _
  rw [List.length_append]; rfl
 refine ⟨⟨⟨W'.nn,W'.rd,W'.ra,W'.up,W'.kid,W'.lf,W'.cok,W'.m1,W'.sok⟩,fun n hn c hc=>?_,fun n hn b hb=>?_,fun n hn hq=>?_,fun n hn g' hg=>?_,?_,?_,Y.vl⟩,wl⟩
 ·obtain ⟨m,hm,rfl⟩:=List.mem_map.mp hn
  obtain ⟨c0,a,b,d,e1,e2⟩:=chk m hm c hc
  rw [gl]
  exact ⟨e1,e2⟩
 ·obtain ⟨m,hm,rfl⟩:=List.mem_map.mp hn
  show BkOk D.most b.2/\b.2.s<=t
  unfold stN at hb
  by_cases q:m.nm∈x :: pre
  ·rw [if_pos q] at hb
   cases hb0:m.bk with
   | none=>rw [hb0] at hb; cases hb
   | some c =>
    rw [hb0] at hb
    obtain rfl:(c.1,c.2.pay t g.2)=b:=Option.some.inj hb
    obtain ⟨b1,b2⟩:=Y.bk m hm c hb0
    exact ⟨b1.pay (by omega) (by omega) (hbx c.2 (zsw q (zdy Y.W.nn hm) hb0)),Int.le_refl _⟩
  ·rw [if_neg q] at hb
   obtain ⟨b1,b2⟩:=Y.bk m hm b hb
   exact ⟨b1,by omega⟩
 ·obtain ⟨m,hm,rfl⟩:=List.mem_map.mp hn
  have:m.ch=none:=Y.lv m hm fun z=>by
   rcases ql m with q | q
   ·rw [q,z] at hq; exact hq rfl
   ·rw [q,z] at hq; exact hq rfl
  cases e:(stN D.most (Rdy D t) (x :: pre) t g.2 m).ch with
  | none=>rfl
  | some c =>
   obtain ⟨c0,a,_⟩:=chk m hm c e
   rw [this] at a; cases a
 ·obtain ⟨m,hm,rfl⟩:=List.mem_map.mp hn
  refine Y.qu m hm g' ?_
  rcases ql m with q | q
  ·rw [q] at hg; exact hg
  ·rw [q] at hg; exact List.mem_of_mem_tail hg
 ·rw [gl]
  have:=Y.bud
  omega
 ·show (D.ns.map _).length<=60
  rw [List.length_map]
  exact Y.ln
noncomputable def TD.mid (D:TD) (t:Int) (x:Str) (pre T:List Str) (len:Int):TD:={ D with ns:=D.ns.map (midN D.most (Rdy D t) (x :: pre) x T t len) }
end L2
namespace L2
theorem zxf {D:TD} (h:NoB D) (t:Int) (x:PySem.Str) (pre T:List PySem.Str) (len:Int):NoB (D.mid t x pre T len):=fun n hn=>by
 obtain ⟨m,hm,rfl⟩:=List.mem_map.mp hn
 have hb:=h m hm
 unfold midN
 split
 ·unfold stN
  split
  ·show Option.map _ m.bk=none
   rw [hb]; rfl
  ·exact hb
 ·split
  ·exact (zsu m).trans hb
  ·exact (zsu m).trans hb
theorem zjf {D:TD} (h:NoB D) (R:PySem.Str->Prop) (S:List PySem.Str) (x:PySem.Str) (t:Int) (g:D2) (p:PySem.Addr):NoB (D.step R S x t g p):=fun n hn=>by
 obtain ⟨m,hm,rfl⟩:=List.mem_map.mp hn
 have hb:=h m hm
 unfold stN
 split
 ·show Option.map _ m.bk=none
  rw [hb]; rfl
 ·exact hb
end L2
namespace L2
open PySem PySem.Spec PyProof.Rows
noncomputable def TD.ask (D:TD) (t:Int) (pre:List Str):TD:={ D with ns:=D.ns.map (chN D.most (Rdy D t) pre) }
theorem zum {D:TD} {t:Int} {pre:List Str} {x:Str} {n:ND} (nn:(D.ns.map (·.nm)).Nodup) (hx:fndN D.ns x=some n) (hc:n.ch=none):D.ns.map (chN D.most (Rdy D t) pre)=D.ns.map (chN D.most (Rdy D t) (x :: pre)):=by
 refine List.map_congr_left fun y hy=>?_
 by_cases e:y.nm=x
 ·have:y=n:=by
   have:=zdy nn hy
   rw [e,hx] at this
   exact (Option.some.inj this).symm
  subst this
  have same:∀ S,chN D.most (Rdy D t) S y=y:=fun S=>by
   unfold chN
   split
   ·obtain ⟨a1,a2,a3,a4,a5,a6,a7,a8,a9⟩:=y
    cases hc
    rfl
   ·rfl
  rw [same,same]
 ·unfold chN
  have:y.nm∈x :: pre↔y.nm∈pre:=by
   rw [List.mem_cons]
   exact ⟨fun z=>z.resolve_left e,.inr⟩
  by_cases c:y.nm∈pre
  ·rw [if_pos c,if_pos (this.mpr c)]
  ·rw [if_neg c,if_neg (fun z=>c (this.mp z))]
open Classical in
theorem zqp {c:CSt} {R:Str->Prop} {ks:List Str} (h:∀ y,y∈ks↔R y):rdl c R=(c.nm.map (·.1)).filter fun y=>decide (y∈ks):=by
 unfold rdl
 refine List.filter_congr fun y _=>?_
 rw [decide_eq_decide]
 exact (h y).symm
theorem TD.Dy.mono {D:TD} {τ τ':Int} {v:Nat} (h:D.Dy τ v) (l:τ<=τ'):D.Dy τ' v:=⟨h.W,h.fin,fun n hn b hb=>⟨(h.bk n hn b hb).1,by have:=(h.bk n hn b hb).2; omega⟩,h.lv,h.qu,h.bud,h.ln,h.vl⟩
theorem step_foot {D:TD} {R:Str->Prop} {S:List Str} {x:Str} {t:Int} {g:D2} {p:Addr}:(D.step R S x t g p).foot=D.foot:=by
 have:=zpy (D:=D) (f:=stN D.most R S t g.2) fun y=>zpw y
 exact this
theorem Nx.rest {D:TD} {a t:Int} (h:Nx D a) (l:t<=a):Rest D t:=fun x u h1 h2 m=>by
 have:=h.le x u h1 h2 m
 omega
theorem Runs.keep {t:Int} {I:TD->Prop} {D D':TD} (h:Runs t D D') (hI:I D) (st:∀ D a x pre g p,I D->Nx D a->a<t->Goes D a x pre g->I (D.step (Rdy D a) (x :: pre) x a g p)):I D':=by
 induction h with
 | stop _=>exact hI
 | go h1 h2 h3 _ ih=>exact ih (st _ _ _ _ _ _ hI h1 h2 h3)
theorem Runs.rest {t:Int} {D D':TD} (h:Runs t D D'):Rest D' t:=by
 induction h with
 | stop r=>exact r
 | go _ _ _ _ ih=>exact ih
end L2
local macro_rules | `(tactic| walk_at "rd")=>`(tactic| try simp only [L2.tAsg,L2.tOp,L2.tUn,L2.gName,L2.tVar,L2.tC,L2.rI,L2.rI0,L2.rU,L2.rEq,L2.rNe,L2.scal,L2.tTest,L2.tIfS,L2.tRet,L2.tRetN,L2.tNext,L2.tDrop,L2.tCB,L2.tCons,L2.tNil,L2.tCall,L2.tAndV,L2.tOrV,L2.tNotV,L2.tAnd,L2.tOr,L2.tNot,L2.tB,L2.tIf,L2.tChain,L2.tTup,L2.tLst,L2.tBM,L2.tBM0,L2.tComp_eq,L2.tCallX,L2.tCallN,L2.tDGet,L2.tDGet1,L2.tDGet2,L2.sDPut,L2.tDIn,L2.tDNotIn,L2.tDSd,L2.tDNewK,L2.tTru,L2.tFld_eq,L2.sFld_eq,L2.tMethX_eq,L2.tMakeX,L2.tXmk,L2.tXmk1,L2.tRaise,L2.tTry,L2.tTryAs,L2.hkOf,L2.iList,L2.iTup,L2.iEnum,L2.iRng1,L2.iRng2,L2.iRng3,L2.iEnum1,L2.iRev,L2.tSl,L2.tPart,L2.tNoPart,L2.gTup,L2.gCons,L2.gNil,L2.spInt1,L2.spInt2,L2.spWhole,
 List.getElem?_cons_zero,List.getElem?_cons_succ,List.set_cons_zero,List.set_cons_succ,List.cons_append,List.nil_append,List.append_nil,Option.some.injEq,L2.V.int.injEq,L2.V.bl.injEq,L2.V.ref.injEq,L2.V.str.injEq,List.cons.injEq,exists_eq_left',exists_eq_left,exists_eq_right,exists_and_left,exists_and_right,and_true,true_and,and_self,exists_const,exists_eq,exists_eq',and_assoc,decide_eq_true_eq,Bool.not_eq_true',Bool.not_true,Bool.not_false,Bool.false_eq_true,Bool.true_eq_false,if_true,if_false,decide_eq_false_iff_not,ite_not,↓reduceIte,Int.reduceLT,Int.reduceLE,Int.reducePow,Int.reduceMul,Int.reduceAdd,Int.reduceSub,Int.reduceNeg,Int.reduceToNat,Int.reduceEq,Int.reduceNe,L2.CPow,L2.cmulL_lit,L2.line_lit,L2.line_lt,List.length_cons,List.length_nil,Nat.reduceAdd,Nat.zero_add,L2.cdivL_lit,Int.natAbs_natCast,Int.natAbs_neg,Nat.reducePow,Nat.reduceLT,Nat.reduceLeDiff,Int.natAbs,L2.tPar,ne_eq,not_false_eq_true,not_true_eq_false])
local macro_rules | `(tactic| walk_at "rds")=>`(tactic| try simp only [L2.tSeq,L2.tAsg,L2.tOp,L2.tUn,L2.gName,L2.tVar,L2.tC,L2.rI,L2.rI0,L2.rU,L2.rEq,L2.rNe,L2.scal,L2.tTest,L2.tIfS,L2.tRet,L2.tRetN,L2.tNext,L2.tDrop,L2.tCB,L2.tCons,L2.tNil,L2.tCall,L2.tAndV,L2.tOrV,L2.tNotV,L2.tAnd,L2.tOr,L2.tNot,L2.tB,L2.tIf,L2.tChain,L2.tTup,L2.tLst,L2.tBM,L2.tBM0,L2.tComp_eq,L2.tCallX,L2.tCallN,L2.tDGet,L2.tDGet1,L2.tDGet2,L2.sDPut,L2.tDIn,L2.tDNotIn,L2.tDSd,L2.tDNewK,L2.tTru,L2.tFld_eq,L2.sFld_eq,L2.tMethX_eq,L2.tMakeX,L2.tXmk,L2.tXmk1,L2.tRaise,L2.tTry,L2.tTryAs,L2.hkOf,L2.iList,L2.iTup,L2.iEnum,L2.iRng1,L2.iRng2,L2.iRng3,L2.iEnum1,L2.iRev,L2.tSl,L2.tPart,L2.tNoPart,L2.gTup,L2.gCons,L2.gNil,L2.spInt1,L2.spInt2,L2.spWhole,
 List.getElem?_cons_zero,List.getElem?_cons_succ,List.set_cons_zero,List.set_cons_succ,List.cons_append,List.nil_append,List.append_nil,Option.some.injEq,L2.V.int.injEq,L2.V.bl.injEq,L2.V.ref.injEq,L2.V.str.injEq,List.cons.injEq,exists_eq_left',exists_eq_left,exists_eq_right,exists_and_left,exists_and_right,and_true,true_and,and_self,exists_const,exists_eq,exists_eq',and_assoc,decide_eq_true_eq,Bool.not_eq_true',Bool.not_true,Bool.not_false,Bool.false_eq_true,Bool.true_eq_false,if_true,if_false,decide_eq_false_iff_not,ite_not,↓reduceIte,Int.reduceLT,Int.reduceLE,Int.reducePow,Int.reduceMul,Int.reduceAdd,Int.reduceSub,Int.reduceNeg,Int.reduceToNat,Int.reduceEq,Int.reduceNe,L2.CPow,L2.cmulL_lit,L2.line_lit,L2.line_lt,List.length_cons,List.length_nil,Nat.reduceAdd,Nat.zero_add,L2.cdivL_lit,Int.natAbs_natCast,Int.natAbs_neg,Nat.reducePow,Nat.reduceLT,Nat.reduceLeDiff,Int.natAbs,L2.tPar,ne_eq,not_false_eq_true,not_true_eq_false])
namespace K74
open PySem L2 PyProof.Rows
theorem miz {fs m0 pn t0 f0 c0 pg} (h:FTr fs m0 pn t0 f0 c0 pg) (m:Str) (h1:¬ m = "most":=by decide +kernel) (h2:¬ m = "nodes":=by decide +kernel) (h3:¬ m = "time":=by decide +kernel) (h4:¬ m = "free":=by decide +kernel) (h5:¬ m = "counted":=by decide +kernel) (h6:¬ m = "gone":=by decide +kernel):fs.lookup m=none:=h.mis m h1 h2 h3 h4 h5 h6
def top (i:Nat):Stmt:=PySem.Challenge.pw_sharewheel_k74_whole_the_bound_is_come_t.main.body.getD i (.Pass ⟨0,0,0,0⟩)
abbrev zfn:Stmt:=top 13
abbrev zif:Stmt:=top 14
abbrev zlm:Stmt:=top 15
abbrev zig:Stmt:=top 16
abbrev zih:Stmt:=top 17
abbrev zfo:Stmt:=top 18
abbrev zdw:Stmt:=top 21
abbrev zef:Stmt:=top 35
abbrev zfp:Stmt:=top 36
abbrev zeg:Stmt:=top 37
abbrev zeu:Stmt:=top 41
abbrev zdm:Stmt:=top 43
abbrev zdx:Stmt:=top 44
abbrev zen:Stmt:=top 45
abbrev zeo:Stmt:=top 46
abbrev zev:Stmt:=top 47
abbrev s_law:Stmt:=top 48
theorem sc_divisor:FnScope ["one", "other", "great", "small", "rest"] ["one", "other"] (zab zfn):=⟨rfl,rfl,rfl,by decide +kernel,rfl,by decide +kernel,by decide +kernel⟩
theorem sc_ratio:FnScope ["top", "bottom", "common"] ["top", "bottom"] (zab zif):=⟨rfl,rfl,rfl,by decide +kernel,rfl,by decide +kernel,by decide +kernel⟩
theorem zxg:FnScope ["one", "other"] ["one", "other"] (zab zlm):=⟨rfl,rfl,rfl,by decide +kernel,rfl,by decide +kernel,by decide +kernel⟩
theorem zun:FnScope ["one", "other"] ["one", "other"] (zab zig):=⟨rfl,rfl,rfl,by decide +kernel,rfl,by decide +kernel,by decide +kernel⟩
theorem zuo:FnScope ["one", "other"] ["one", "other"] (zab zih):=⟨rfl,rfl,rfl,by decide +kernel,rfl,by decide +kernel,by decide +kernel⟩
theorem sc_greater:FnScope ["one", "other", "most"] ["one", "other"] (zab zfo):=⟨rfl,rfl,rfl,by decide +kernel,rfl,by decide +kernel,by decide +kernel⟩
theorem zkp:FnScope ["share"] ["share"] (zab zdw):=⟨rfl,rfl,rfl,by decide +kernel,rfl,by decide +kernel,by decide +kernel⟩
theorem zly:FnScope ["most"] ["most"] (zab zef):=⟨rfl,rfl,rfl,by decide +kernel,rfl,by decide +kernel,by decide +kernel⟩
theorem zqq:FnScope ["text"] ["text"] (zab zfp):=⟨rfl,rfl,rfl,by decide +kernel,rfl,by decide +kernel,by decide +kernel⟩
theorem zlz:FnScope ["kind", "most"] ["kind", "most"] (zab zeg):=⟨rfl,rfl,rfl,by decide +kernel,rfl,by decide +kernel,by decide +kernel⟩
theorem sc_pair_run:FnScope ["share", "other", "most", "low", "high", "first", "row", "comes", "bound"] ["share", "other", "most"] (zab zeu):=⟨rfl,rfl,rfl,by decide +kernel,rfl,by decide +kernel,by decide +kernel⟩
theorem zka:FnScope ["_law_script", "_law_k"] ["_law_script", "_law_k"] (zab zdm):=⟨rfl,rfl,rfl,by decide +kernel,rfl,by decide +kernel,by decide +kernel⟩
theorem zkq:FnScope ["_law_cell"] ["_law_cell"] (zab zdx):=⟨rfl,rfl,rfl,by decide +kernel,rfl,by decide +kernel,by decide +kernel⟩
theorem sc__law_tree:FnScope ["_law_low", "_law_high", "_law_most", "_law_row", "_law_tree_here", "_law_lengths", "_law_at", "_law_name", "_law_length"] ["_law_low", "_law_high", "_law_most", "_law_row"] (zab zen):=⟨rfl,rfl,rfl,by decide +kernel,rfl,by decide +kernel,by decide +kernel⟩
theorem sc__law_rest:FnScope ["_law_tree_here", "_law_cells", "_law_most", "_law_cell"] ["_law_tree_here", "_law_cells", "_law_most"] (zab zeo):=⟨rfl,rfl,rfl,by decide +kernel,rfl,by decide +kernel,by decide +kernel⟩
theorem sc__law_law:FnScope ["_law_told", "_law_low", "_law_high", "_law_most", "_law_comes", "_law_gap", "_law_top"] ["_law_told", "_law_low", "_law_high", "_law_most"] (zab zev):=⟨rfl,rfl,rfl,by decide +kernel,rfl,by decide +kernel,by decide +kernel⟩
theorem sc_law:FnScope ["_law_script", "_law_share", "_law_other", "_law_most", "_law_way", "_law_told", "_law_low", "_law_high", "_law_made", "_law_tree_here", "_law_lengths", "_law_goings", "_law_many", "_law_went"] ["_law_script"] (zab s_law):=⟨rfl,rfl,rfl,by decide +kernel,rfl,by decide +kernel,by decide +kernel⟩
abbrev zcw:Stmt:=zat (top 22) 0
theorem zkb:FnScope ["self"] ["self"] (zab zcw):=⟨rfl,rfl,rfl,by decide +kernel,rfl,by decide +kernel,by decide +kernel⟩
abbrev zbe:Stmt:=zat (top 22) 1
theorem zgf:FnScope ["self", "name"] ["self", "name"] (zab zbe):=⟨rfl,rfl,rfl,by decide +kernel,rfl,by decide +kernel,by decide +kernel⟩
abbrev zdf:Stmt:=zat (top 22) 2
theorem zkr:FnScope ["self", "name", "share"] ["self", "name", "share"] (zab zdf):=⟨rfl,rfl,rfl,by decide +kernel,rfl,by decide +kernel,by decide +kernel⟩
abbrev zcj:Stmt:=zat (top 22) 5
theorem ziy:FnScope ["self"] ["self"] (zab zcj):=⟨rfl,rfl,rfl,by decide +kernel,rfl,by decide +kernel,by decide +kernel⟩
abbrev zbn:Stmt:=zat (top 22) 6
theorem zgq:FnScope ["self", "name"] ["self", "name"] (zab zbn):=⟨rfl,rfl,rfl,by decide +kernel,rfl,by decide +kernel,by decide +kernel⟩
abbrev zdg:Stmt:=zat (top 25) 0
theorem zks:FnScope ["self", "most"] ["self", "most"] (zab zdg):=⟨rfl,rfl,rfl,by decide +kernel,rfl,by decide +kernel,by decide +kernel⟩
abbrev zcx:Stmt:=zat (top 25) 1
theorem zkc:FnScope ["self", "name"] ["self", "name"] (zab zcx):=⟨rfl,rfl,rfl,by decide +kernel,rfl,by decide +kernel,by decide +kernel⟩
abbrev zdh:Stmt:=zat (top 25) 4
theorem sc_Starts_pick:FnScope ["self", "ready", "first", "name"] ["self", "ready"] (zab zdh):=⟨rfl,rfl,rfl,by decide +kernel,rfl,by decide +kernel,by decide +kernel⟩
abbrev zck:Stmt:=zat (top 25) 5
theorem sc_Starts_charge:FnScope ["self", "name", "length", "step"] ["self", "name", "length"] (zab zck):=⟨rfl,rfl,rfl,by decide +kernel,rfl,by decide +kernel,by decide +kernel⟩
abbrev zcl:Stmt:=zat (top 25) 7
theorem ziz:FnScope ["self", "name"] ["self", "name"] (zab zcl):=⟨rfl,rfl,rfl,by decide +kernel,rfl,by decide +kernel,by decide +kernel⟩
abbrev zbg:Stmt:=zat (top 24) 0
theorem zgi:FnScope ["self", "most"] ["self", "most"] (zab zbg):=⟨rfl,rfl,rfl,by decide +kernel,rfl,by decide +kernel,by decide +kernel⟩
abbrev zdr:Stmt:=zat (top 24) 1
theorem zma:FnScope ["self", "name", "share"] ["self", "name", "share"] (zab zdr):=⟨rfl,rfl,rfl,by decide +kernel,rfl,by decide +kernel,by decide +kernel⟩
abbrev zcy:Stmt:=zat (top 24) 4
theorem zkd:FnScope ["self"] ["self"] (zab zcy):=⟨rfl,rfl,rfl,by decide +kernel,rfl,by decide +kernel,by decide +kernel⟩
abbrev zbu:Stmt:=zat (top 24) 5
theorem zhm:FnScope ["self", "name"] ["self", "name"] (zab zbu):=⟨rfl,rfl,rfl,by decide +kernel,rfl,by decide +kernel,by decide +kernel⟩
abbrev zcm:Stmt:=zat (top 24) 7
theorem sc_Starts_choose:FnScope ["self", "ready", "name"] ["self", "ready"] (zab zcm):=⟨rfl,rfl,rfl,by decide +kernel,rfl,by decide +kernel,by decide +kernel⟩
abbrev zds:Stmt:=zat (top 24) 8
theorem zmb:FnScope ["self", "length"] ["self", "length"] (zab zds):=⟨rfl,rfl,rfl,by decide +kernel,rfl,by decide +kernel,by decide +kernel⟩
abbrev zdi:Stmt:=zat (top 26) 0
theorem zkt:FnScope ["self", "most"] ["self", "most"] (zab zdi):=⟨rfl,rfl,rfl,by decide +kernel,rfl,by decide +kernel,by decide +kernel⟩
abbrev zcz:Stmt:=zat (top 26) 1
theorem zke:FnScope ["self", "name"] ["self", "name"] (zab zcz):=⟨rfl,rfl,rfl,by decide +kernel,rfl,by decide +kernel,by decide +kernel⟩
abbrev zbo:Stmt:=zat (top 26) 3
theorem zgr:FnScope ["self", "name"] ["self", "name"] (zab zbo):=⟨rfl,rfl,rfl,by decide +kernel,rfl,by decide +kernel,by decide +kernel⟩
abbrev zdj:Stmt:=zat (top 26) 5
theorem zku:FnScope ["self", "ready"] ["self", "ready"] (zab zdj):=⟨rfl,rfl,rfl,by decide +kernel,rfl,by decide +kernel,by decide +kernel⟩
abbrev zbv:Stmt:=zat (top 26) 6
theorem zhn:FnScope ["self"] ["self"] (zab zbv):=⟨rfl,rfl,rfl,by decide +kernel,rfl,by decide +kernel,by decide +kernel⟩
abbrev zbh:Stmt:=zat (top 26) 7
theorem sc_Rounds_begin_turn:FnScope ["self", "ready", "name"] ["self", "ready"] (zab zbh):=⟨rfl,rfl,rfl,by decide +kernel,rfl,by decide +kernel,by decide +kernel⟩
abbrev zcn:Stmt:=zat (top 26) 8
theorem zja:FnScope ["self", "name", "length"] ["self", "name", "length"] (zab zcn):=⟨rfl,rfl,rfl,by decide +kernel,rfl,by decide +kernel,by decide +kernel⟩
abbrev zbi:Stmt:=zat (top 24) 0
theorem zgj:FnScope ["self", "most"] ["self", "most"] (zab zbi):=⟨rfl,rfl,rfl,by decide +kernel,rfl,by decide +kernel,by decide +kernel⟩
abbrev zdt:Stmt:=zat (top 24) 1
theorem zmc:FnScope ["self", "name", "share"] ["self", "name", "share"] (zab zdt):=⟨rfl,rfl,rfl,by decide +kernel,rfl,by decide +kernel,by decide +kernel⟩
abbrev zda:Stmt:=zat (top 24) 4
theorem zkf:FnScope ["self"] ["self"] (zab zda):=⟨rfl,rfl,rfl,by decide +kernel,rfl,by decide +kernel,by decide +kernel⟩
abbrev zbw:Stmt:=zat (top 24) 5
theorem zho:FnScope ["self", "name"] ["self", "name"] (zab zbw):=⟨rfl,rfl,rfl,by decide +kernel,rfl,by decide +kernel,by decide +kernel⟩
abbrev zco:Stmt:=zat (top 24) 7
theorem sc_Rounds_choose:FnScope ["self", "ready", "name"] ["self", "ready"] (zab zco):=⟨rfl,rfl,rfl,by decide +kernel,rfl,by decide +kernel,by decide +kernel⟩
abbrev zdu:Stmt:=zat (top 24) 8
theorem zmd:FnScope ["self", "length"] ["self", "length"] (zab zdu):=⟨rfl,rfl,rfl,by decide +kernel,rfl,by decide +kernel,by decide +kernel⟩
abbrev zcb:Stmt:=zat (top 38) 0
theorem znr:FnScope ["self", "above", "chooser", "room"] ["self", "above", "chooser", "room"] (zab zcb):=⟨rfl,rfl,rfl,by decide +kernel,rfl,by decide +kernel,by decide +kernel⟩
abbrev zbj:Stmt:=zat (top 38) 2
theorem zgk:FnScope ["self", "length"] ["self", "length"] (zab zbj):=⟨rfl,rfl,rfl,by decide +kernel,rfl,by decide +kernel,by decide +kernel⟩
abbrev zdk:Stmt:=zat (top 38) 3
theorem zkv:FnScope ["self", "at", "length"] ["self", "at", "length"] (zab zdk):=⟨rfl,rfl,rfl,by decide +kernel,rfl,by decide +kernel,by decide +kernel⟩
abbrev zcc:Stmt:=zat (top 39) 0
theorem zns:FnScope ["self", "most", "kind"] ["self", "most", "kind"] (zab zcc):=⟨rfl,rfl,rfl,by decide +kernel,rfl,by decide +kernel,by decide +kernel⟩
abbrev zbp:Stmt:=zat (top 39) 1
theorem zgs:FnScope ["self", "name"] ["self", "name"] (zab zbp):=⟨rfl,rfl,rfl,by decide +kernel,rfl,by decide +kernel,by decide +kernel⟩
abbrev zbx:Stmt:=zat (top 39) 2
theorem zhp:FnScope ["self", "name"] ["self", "name"] (zab zbx):=⟨rfl,rfl,rfl,by decide +kernel,rfl,by decide +kernel,by decide +kernel⟩
abbrev zbq:Stmt:=zat (top 39) 3
theorem zgt:FnScope ["self", "under", "kind"] ["self", "under", "kind"] (zab zbq):=⟨rfl,rfl,rfl,by decide +kernel,rfl,by decide +kernel,by decide +kernel⟩
abbrev zcu:Stmt:=zat (top 39) 4
theorem zon:FnScope ["self", "name", "under", "kind", "share", "room"] ["self", "name", "under", "kind", "share", "room"] (zab zcu):=⟨rfl,rfl,rfl,by decide +kernel,rfl,by decide +kernel,by decide +kernel⟩
abbrev zee:Stmt:=zat (top 39) 10
theorem sc_Tree_come:FnScope ["self", "name", "length", "number"] ["self", "name", "length"] (zab zee):=⟨rfl,rfl,rfl,by decide +kernel,rfl,by decide +kernel,by decide +kernel⟩
abbrev zdv:Stmt:=zat (top 39) 11
theorem sc_Tree_until:FnScope ["self", "at", "start"] ["self", "at"] (zab zdv):=⟨rfl,rfl,rfl,by decide +kernel,rfl,by decide +kernel,by decide +kernel⟩
abbrev zep:Stmt:=zat (top 39) 12
theorem zoo:FnScope ["self"] ["self"] (zab zep):=⟨rfl,rfl,rfl,by decide +kernel,rfl,by decide +kernel,by decide +kernel⟩
abbrev zdl:Stmt:=zat (top 39) 13
theorem zkw:FnScope ["self"] ["self"] (zab zdl):=⟨rfl,rfl,rfl,by decide +kernel,rfl,by decide +kernel,by decide +kernel⟩
abbrev zew:Stmt:=zat (top 39) 15
abbrev zeh:Stmt:=zat (top 39) 16
abbrev zcd:Stmt:=zat (top 39) 21
theorem sc_Tree_from_road:FnScope ["self", "name", "names"] ["self", "name"] (zab zcd):=⟨rfl,rfl,rfl,by decide +kernel,rfl,by decide +kernel,by decide +kernel⟩
abbrev zbr:Stmt:=zat (top 39) 22
theorem zgu:FnScope ["self"] ["self"] (zab zbr):=⟨rfl,rfl,rfl,by decide +kernel,rfl,by decide +kernel,by decide +kernel⟩
abbrev zce:Stmt:=zat (top 39) 23
theorem sc_Tree_leaf_time:FnScope ["self", "name", "at", "length", "buckets"] ["self", "name", "at"] (zab zce):=⟨rfl,rfl,rfl,by decide +kernel,rfl,by decide +kernel,by decide +kernel⟩
abbrev zcp:Stmt:=zat (top 39) 24
theorem sc_Tree_ready_at:FnScope ["self", "at", "ready", "name", "one"] ["self", "at"] (zab zcp):=⟨rfl,rfl,rfl,by decide +kernel,rfl,by decide +kernel,by decide +kernel⟩
abbrev zbs:Stmt:=zat (top 39) 25
theorem sc_Tree_next_choice:FnScope ["self", "at"] ["self"] (zab zbs):=⟨rfl,rfl,rfl,by decide +kernel,rfl,by decide +kernel,by decide +kernel⟩
abbrev zbt:Stmt:=zat (top 39) 26
theorem sc_Tree_make_choice:FnScope ["self", "at", "ready", "name", "chooser"] ["self", "at"] (zab zbt):=⟨rfl,rfl,rfl,by decide +kernel,rfl,by decide +kernel,by decide +kernel⟩
abbrev zby:Stmt:=zat (top 39) 27
theorem sc_Tree_send_first:FnScope ["self", "name", "at", "first", "one"] ["self", "name", "at"] (zab zby):=⟨rfl,rfl,rfl,by decide +kernel,rfl,by decide +kernel,by decide +kernel⟩
structure Txt (K:PySem.W.Frag) (mg:Str->Option Value) (c_NoName:Addr) (c_Taken:Addr) (c_NoClass:Addr) (c_NoPlace:Addr) (c_NoShare:Addr) (c_NoLength:Addr) (c_TooEarly:Addr) (c_NoneReady:Addr) (c_Members:Addr) (c_Chooser:Addr) (c_Starts:Addr) (c_Rounds:Addr) (c_Node:Addr) (c_Tree:Addr):Prop where
 mg_NoName:mg "NoName" = some (.ref c_NoName)
 xc_NoName:XC K c_NoName
 kp_NoName:PySem.W.keepIn K (.ref c_NoName)=true
 ex_NoName:PySem.W.excIn K c_NoName bmV "ValueError.__new__" = true
 mg_Taken:mg "Taken" = some (.ref c_Taken)
 xc_Taken:XC K c_Taken
 kp_Taken:PySem.W.keepIn K (.ref c_Taken)=true
 ex_Taken:PySem.W.excIn K c_Taken bmV "ValueError.__new__" = true
 mg_NoClass:mg "NoClass" = some (.ref c_NoClass)
 xc_NoClass:XC K c_NoClass
 kp_NoClass:PySem.W.keepIn K (.ref c_NoClass)=true
 ex_NoClass:PySem.W.excIn K c_NoClass bmV "ValueError.__new__" = true
 mg_NoPlace:mg "NoPlace" = some (.ref c_NoPlace)
 xc_NoPlace:XC K c_NoPlace
 kp_NoPlace:PySem.W.keepIn K (.ref c_NoPlace)=true
 ex_NoPlace:PySem.W.excIn K c_NoPlace bmV "ValueError.__new__" = true
 mg_NoShare:mg "NoShare" = some (.ref c_NoShare)
 xc_NoShare:XC K c_NoShare
 kp_NoShare:PySem.W.keepIn K (.ref c_NoShare)=true
 ex_NoShare:PySem.W.excIn K c_NoShare bmV "ValueError.__new__" = true
 mg_NoLength:mg "NoLength" = some (.ref c_NoLength)
 xc_NoLength:XC K c_NoLength
 kp_NoLength:PySem.W.keepIn K (.ref c_NoLength)=true
 ex_NoLength:PySem.W.excIn K c_NoLength bmV "ValueError.__new__" = true
 mg_TooEarly:mg "TooEarly" = some (.ref c_TooEarly)
 xc_TooEarly:XC K c_TooEarly
 kp_TooEarly:PySem.W.keepIn K (.ref c_TooEarly)=true
 ex_TooEarly:PySem.W.excIn K c_TooEarly bmV "ValueError.__new__" = true
 mg_NoneReady:mg "NoneReady" = some (.ref c_NoneReady)
 xc_NoneReady:XC K c_NoneReady
 kp_NoneReady:PySem.W.keepIn K (.ref c_NoneReady)=true
 ex_NoneReady:PySem.W.excIn K c_NoneReady bmV "ValueError.__new__" = true
 no_abs:mg "abs" = none
 no_all:mg "all" = none
 no_len:mg "len" = none
 no_max:mg "max" = none
 no_min:mg "min" = none
 no_sum:mg "sum" = none
 no_any:mg "any" = none
 no_list:mg "list" = none
 mg_GREATEST_SHARE:∃ t,mg "GREATEST_SHARE" = some (.int 1000000 t)
 mg_GREATEST_LENGTH:∃ t,mg "GREATEST_LENGTH" = some (.int 1000000 t)
 mg_LETTERS:∃ t,mg "LETTERS" = some (.str (Str.ofString "abcdefghijklmnopqrstuvwxyz") t)
 mg_LONGEST_NAME:∃ t,mg "LONGEST_NAME" = some (.int 8 t)
 mg_ROAD:∃ t,mg "ROAD" = some (.str (Str.ofString "road") t)
 mg_INNER_KINDS:∃ a,mg "INNER_KINDS" = some (.ref a)/\∀ H,SqT K H a [.str (Str.ofString "starts"),.str (Str.ofString "rounds")]
 mg_LONGEST_WAY:∃ t,mg "LONGEST_WAY" = some (.int 5 t)
 mg_LEAF:∃ t,mg "LEAF" = some (.str (Str.ofString "leaf") t)
 src_divisor:Src K mg "divisor" zfn ["one", "other"]
 src_ratio:Src K mg "ratio" zif ["top", "bottom"]
 src_plus:Src K mg "plus" zlm ["one", "other"]
 src_minus:Src K mg "minus" zig ["one", "other"]
 src_under:Src K mg "under" zih ["one", "other"]
 src_greater:Src K mg "greater" zfo ["one", "other"]
 src_check_share:Src K mg "check_share" zdw ["share"]
 src_check_most:Src K mg "check_most" zef ["most"]
 src_is_name:Src K mg "is_name" zfp ["text"]
 src_chooser_of:Src K mg "chooser_of" zeg ["kind", "most"]
 src_pair_run:Src K mg "pair_run" zeu ["share", "other", "most"]
 src__law_cell_at:Src K mg "_law_cell_at" zdm ["_law_script", "_law_k"]
 src__law_number:Src K mg "_law_number" zdx ["_law_cell"]
 src__law_tree:Src K mg "_law_tree" zen ["_law_low", "_law_high", "_law_most", "_law_row"]
 src__law_rest:Src K mg "_law_rest" zeo ["_law_tree_here", "_law_cells", "_law_most"]
 src__law_law:Src K mg "_law_law" zev ["_law_told", "_law_low", "_law_high", "_law_most"]
 mg_Members:mg "Members" = some (.ref c_Members)
 cl_Members:Cls K c_Members
 na_Members_shares:NoAttr K c_Members "shares"
 in_Members:SrcK K c_Members "Members.__init__" zcw ["self"] [[]]
 me_Members_check_name:SrcM K c_Members "check_name" "Members.check_name" zbe ["self", "name"] [[]]
 me_Members_put:SrcM K c_Members "put" "Members.put" zdf ["self", "name", "share"] [[]]
 me_Members_names:SrcM K c_Members "names" "Members.names" zcj ["self"] [[]]
 me_Members_share_of:SrcM K c_Members "share_of" "Members.share_of" zbn ["self", "name"] [[]]
 mg_Chooser:mg "Chooser" = some (.ref c_Chooser)
 mg_Starts:mg "Starts" = some (.ref c_Starts)
 cl_Starts:Cls K c_Starts
 na_Starts_reached:NoAttr K c_Starts "reached"
 na_Starts_tags:NoAttr K c_Starts "tags"
 na_Starts_greatest_steps:NoAttr K c_Starts "greatest_steps"
 na_Starts_most:NoAttr K c_Starts "most"
 na_Starts_members:NoAttr K c_Starts "members"
 na_Starts_chosen:NoAttr K c_Starts "chosen"
 in_Starts:SrcK K c_Starts "Starts.__init__" zdg ["self", "most"] [[]]
 me_Starts_enter:SrcM K c_Starts "enter" "Starts.enter" zcx ["self", "name"] [[]]
 me_Starts_pick:SrcM K c_Starts "pick" "Starts.pick" zdh ["self", "ready"] [[]]
 me_Starts_charge:SrcM K c_Starts "charge" "Starts.charge" zck ["self", "name", "length"] [[]]
 me_Starts_stands:SrcM K c_Starts "stands" "Starts.stands" zcl ["self", "name"] [[]]
 up_Starts_up_Chooser:SrcU K c_Chooser "__init__" "Chooser.__init__" zbg ["self", "most"]
 me_Starts_put:SrcM K c_Starts "put" "Chooser.put" zdr ["self", "name", "share"] [[]]
 me_Starts_names:SrcM K c_Starts "names" "Chooser.names" zcy ["self"] [[]]
 me_Starts_share_of:SrcM K c_Starts "share_of" "Chooser.share_of" zbu ["self", "name"] [[]]
 me_Starts_choose:SrcM K c_Starts "choose" "Chooser.choose" zcm ["self", "ready"] [[]]
 me_Starts_pay:SrcM K c_Starts "pay" "Chooser.pay" zds ["self", "length"] [[]]
 mg_Rounds:mg "Rounds" = some (.ref c_Rounds)
 cl_Rounds:Cls K c_Rounds
 na_Rounds_queue:NoAttr K c_Rounds "queue"
 na_Rounds_rests:NoAttr K c_Rounds "rests"
 na_Rounds_turn:NoAttr K c_Rounds "turn"
 na_Rounds_most:NoAttr K c_Rounds "most"
 na_Rounds_members:NoAttr K c_Rounds "members"
 na_Rounds_chosen:NoAttr K c_Rounds "chosen"
 in_Rounds:SrcK K c_Rounds "Rounds.__init__" zdi ["self", "most"] [[]]
 me_Rounds_enter:SrcM K c_Rounds "enter" "Rounds.enter" zcz ["self", "name"] [[]]
 me_Rounds_full_rest:SrcM K c_Rounds "full_rest" "Rounds.full_rest" zbo ["self", "name"] [[]]
 me_Rounds_pick:SrcM K c_Rounds "pick" "Rounds.pick" zdj ["self", "ready"] [[]]
 me_Rounds_end_turn:SrcM K c_Rounds "end_turn" "Rounds.end_turn" zbv ["self"] [[]]
 me_Rounds_begin_turn:SrcM K c_Rounds "begin_turn" "Rounds.begin_turn" zbh ["self", "ready"] [[]]
 me_Rounds_charge:SrcM K c_Rounds "charge" "Rounds.charge" zcn ["self", "name", "length"] [[]]
 up_Rounds_up_Chooser:SrcU K c_Chooser "__init__" "Chooser.__init__" zbi ["self", "most"]
 me_Rounds_put:SrcM K c_Rounds "put" "Chooser.put" zdt ["self", "name", "share"] [[]]
 me_Rounds_names:SrcM K c_Rounds "names" "Chooser.names" zda ["self"] [[]]
 me_Rounds_share_of:SrcM K c_Rounds "share_of" "Chooser.share_of" zbw ["self", "name"] [[]]
 me_Rounds_choose:SrcM K c_Rounds "choose" "Chooser.choose" zco ["self", "ready"] [[]]
 me_Rounds_pay:SrcM K c_Rounds "pay" "Chooser.pay" zdu ["self", "length"] [[]]
 mg_Node:mg "Node" = some (.ref c_Node)
 cl_Node:Cls K c_Node
 na_Node_above:NoAttr K c_Node "above"
 na_Node_chooser:NoAttr K c_Node "chooser"
 na_Node_room:NoAttr K c_Node "room"
 na_Node_bucket:NoAttr K c_Node "bucket"
 na_Node_queue:NoAttr K c_Node "queue"
 in_Node:SrcK K c_Node "Node.__init__" zcb ["self", "above", "chooser", "room"] [[],[V.non]]
 me_Node_has_room_for:SrcM K c_Node "has_room_for" "Node.has_room_for" zbj ["self", "length"] [[]]
 me_Node_charge:SrcM K c_Node "charge" "Node.charge" zdk ["self", "at", "length"] [[]]
 mg_Tree:mg "Tree" = some (.ref c_Tree)
 cl_Tree:Cls K c_Tree
 na_Tree_most:NoAttr K c_Tree "most"
 na_Tree_nodes:NoAttr K c_Tree "nodes"
 na_Tree_time:NoAttr K c_Tree "time"
 na_Tree_free:NoAttr K c_Tree "free"
 na_Tree_counted:NoAttr K c_Tree "counted"
 na_Tree_gone:NoAttr K c_Tree "gone"
 in_Tree:SrcK K c_Tree "Tree.__init__" zcc ["self", "most", "kind"] [[],[V.str (Str.ofString "starts")]]
 me_Tree_check_class:SrcM K c_Tree "check_class" "Tree.check_class" zbp ["self", "name"] [[]]
 me_Tree_check_leaf:SrcM K c_Tree "check_leaf" "Tree.check_leaf" zbx ["self", "name"] [[]]
 me_Tree_check_place:SrcM K c_Tree "check_place" "Tree.check_place" zbq ["self", "under", "kind"] [[]]
 me_Tree_put:SrcM K c_Tree "put" "Tree.put" zcu ["self", "name", "under", "kind", "share", "room"] [[],[V.non]]
 me_Tree_come:SrcM K c_Tree "come" "Tree.come" zee ["self", "name", "length"] [[]]
 me_Tree_until:SrcM K c_Tree "until" "Tree.until" zdv ["self", "at"] [[]]
 me_Tree_now:SrcM K c_Tree "now" "Tree.now" zep ["self"] [[]]
 me_Tree_goings:SrcM K c_Tree "goings" "Tree.goings" zdl ["self"] [[]]
 me_Tree_way:SrcM K c_Tree "way" "Tree.way" zew ["self", "name"] [[]]
 me_Tree_below:SrcM K c_Tree "below" "Tree.below" zeh ["self", "name"] [[]]
 me_Tree_from_road:SrcM K c_Tree "from_road" "Tree.from_road" zcd ["self", "name"] [[]]
 me_Tree_full_leaves:SrcM K c_Tree "full_leaves" "Tree.full_leaves" zbr ["self"] [[]]
 me_Tree_leaf_time:SrcM K c_Tree "leaf_time" "Tree.leaf_time" zce ["self", "name", "at"] [[]]
 me_Tree_ready_at:SrcM K c_Tree "ready_at" "Tree.ready_at" zcp ["self", "at"] [[]]
 me_Tree_next_choice:SrcM K c_Tree "next_choice" "Tree.next_choice" zbs ["self"] [[]]
 me_Tree_make_choice:SrcM K c_Tree "make_choice" "Tree.make_choice" zbt ["self", "at"] [[]]
 me_Tree_send_first:SrcM K c_Tree "send_first" "Tree.send_first" zby ["self", "name", "at"] [[]]
section
variable {P:Program} {w:World} {K:PySem.W.Frag} {mg:Str->Option Value} {base:Heap} {c_NoName c_Taken c_NoClass c_NoPlace c_NoShare c_NoLength c_TooEarly c_NoneReady c_Members c_Chooser c_Starts c_Rounds c_Node c_Tree:Addr}
local macro_rules | `(tactic| walk_at "rdc")=>`(tactic| (walk_at "rd"; (try simp only [L2.tDPop1,L2.tClsX]); walk_at "rd"))
theorem zsy (T:Txt K mg c_NoName c_Taken c_NoClass c_NoPlace c_NoShare c_NoLength c_TooEarly c_NoneReady c_Members c_Chooser c_Starts c_Rounds c_Node c_Tree):Def P w K mg base (CXX P w) 1 "divisor" ["one", "other"] (spInt2 Sw.dv):=by
 refine T.src_divisor.okN (k:=0) sc_divisor (fun vs H Q E h=>?_) (fun f cdv A outer s H vs Q E hr h=>?_)
 ·obtain ⟨a,b,rfl,_⟩:=h
  rfl
 ·obtain ⟨a,b,rfl,k⟩:=h
  refine ⟨_,(zad (zbc (i:=2) sc_divisor.nd rfl (by first|left;rfl|right;rfl) (zcq zoz rfl T.no_abs boot_abs (zaa (pv 0) zaf))) (zad (zbc (i:=3) sc_divisor.nd rfl (by first|left;rfl|right;rfl) (zcq zoz rfl T.no_abs boot_abs (zaa (pv 1) zaf))) (zad (zjb PassesOwn.never (zba op_ne (pv 3) zam (zbk _)) (zad (zbc (i:=4) sc_divisor.nd rfl (by first|left;rfl|right;rfl) (pe_op zit (pv 2) (pv 3))) (zad (zbc (i:=2) sc_divisor.nd rfl (by first|left;rfl|right;rfl) (pv 3)) (zah (zbc (i:=3) sc_divisor.nd rfl (by first|left;rfl|right;rfl) (pv 4)))))) (zah (zbd (pv 2)))))),?_⟩
  refine ⟨_,rfl,a,rfl,?_⟩
  refine ⟨_,rfl,b,rfl,?_⟩
  refine zrq (fun σ H'=>H'=H/\∃ g s r,σ = [some (.int a),some (.int b),some (.int g),some (.int s),r]/\0<=g/\0<=s/\Sw.dv g s=Sw.dv a b)
   (fun σ _=>match σ with | [_,_,_,some (.int s),_]=>s.toNat | _=>0) ⟨rfl,_,_,none,rfl,?_,?_,Sw.dv_abs a b⟩ ?_
  ·split <;> omega
  ·split <;> omega
  ·rintro σ H' ⟨rfl,g,s,r,rfl,hg,hs,e⟩
   refine ⟨!decide (V.int s=V.int 0),fun Q hQ=>⟨_,rfl,rfl,_,rfl,hQ⟩,fun hb=>?_,fun hb=>?_⟩
   ·have hs0:s≠0:=by intro z; subst z; simp at hb
    have hsp:0<s:=by omega
    refine ⟨_,rfl,_,rfl,_,_,rfl,rfl,hsp,?_⟩
    refine ⟨_,rfl,?_⟩
    refine ⟨_,rfl,?_⟩
    refine ⟨⟨rfl,s,g % s,_,rfl,hs,Int.emod_nonneg g hs0,by rw [Sw.dv_step]; exact e⟩,?_⟩
    show (g % s).toNat<s.toNat
    have:=Int.emod_lt_of_pos g hsp
    have:=Int.emod_nonneg g hs0
    omega
   ·have hs0:s = 0:=by
     have:V.int s=V.int 0:=by simpa using hb
     exact V.int.inj this
    subst hs0
    rw [Sw.dv_zero g hg] at e
    refine ⟨_,rfl,?_⟩
    show Q (.int g) H'
    rw [e]; exact k
def spRat:Sp:=fun vs H Q _=>∃ t b z,vs = [.int t,.int b]/\z<=5000/\Sw.Sz z b/\(b≠0->∀ p,H p=none->Q (.ref p) (upd H p (.tup (fq ((t:Rat) / (b:Rat))))))/\(b = 0->False)
theorem zii (T:Txt K mg c_NoName c_Taken c_NoClass c_NoPlace c_NoShare c_NoLength c_TooEarly c_NoneReady c_Members c_Chooser c_Starts c_Rounds c_Node c_Tree):Def P w K mg base (CXX P w) 2 "ratio" ["top", "bottom"] spRat:=by
 have D_divisor:=zsy (P:=P) (w:=w) (base:=base) T
 refine T.src_ratio.okN (k:=1) sc_ratio (fun vs H Q E h=>?_) (fun f cdv A outer s H vs Q E hr h=>?_)
 ·obtain ⟨t,b,z,rfl,_⟩:=h
  rfl
 ·obtain ⟨t,b,z,rfl,z5,sb,k,hb⟩:=h
  refine ⟨_,(zad (ps_if (zba op_eq (pv 1) zam (zbk _)) (zah zox) zbb) (zad (zbc (i:=2) sc_ratio.nd rfl (by first|left;rfl|right;rfl) (zax D_divisor (hr.mono (by decide)) rfl passN (zaa (pv 0) (zaa (pv 1) zaf)))) (zad (ps_if (zba op_lt (pv 1) zam (zbk _)) (zah (zbc (i:=2) sc_ratio.nd rfl (by first|left;rfl|right;rfl) (pe_un zyg (pv 2)))) zbb) (zah (zbd (zfz (zaa (pe_op zlt (pv 0) (pv 2)) (zaa (pe_op zlt (pv 1) (pv 2)) zaf)))))))),?_⟩
  show tSeq _ _ _ [some (.int t),some (.int b),none] H
  refine zae fun R hR=>?_
  walk_at "rd"
  refine iteN hb (hR _ _ ?_)
  have k:=k hb
  rw [<- zyw hb] at k
  have hg:0<Sw.dv t b:=Sw.dv_pos hb
  have hz:Sw.Sz 5000 (Sw.dv t b):=(sb.dvd (Sw.dv_r t b) hb).mono z5
  refine zae fun R hR=>?_
  walk_at "rd"
  refine hR _ _ ?_
  refine zae fun R hR=>?_
  have fin:∀ c:Int,(c=Sw.dv t b/\¬ b<0)\/(c = -(Sw.dv t b)/\b<0)->R [some (.int t),some (.int b),some (.int c)] H:=fun c hc=>by
   refine hR _ _ ?_
   walk_at "rd"
   have c0:c≠0:=by rcases hc with ⟨e,_⟩ | ⟨e,_⟩ <;> omega
   have cz:Sw.Sz 5000 c:=by
    rcases hc with ⟨e,_⟩ | ⟨e,_⟩
    ·rw [e]; exact hz
    ·rw [e]; exact hz.neg
   have d1:c ∣ t:=by
    rcases hc with ⟨e,_⟩ | ⟨e,_⟩
    ·rw [e]; exact Sw.dv_l t b
    ·rw [e]; exact Int.neg_dvd.mpr (Sw.dv_l t b)
   have d2:c ∣ b:=by
    rcases hc with ⟨e,_⟩ | ⟨e,_⟩
    ·rw [e]; exact Sw.dv_r t b
    ·rw [e]; exact Int.neg_dvd.mpr (Sw.dv_r t b)
   have e1:t.fdiv c=Sw.rN t b:=by
    rw [Int.fdiv_eq_ediv_of_dvd d1]
    unfold Sw.rN
    rcases hc with ⟨e,q⟩ | ⟨e,q⟩
    ·rw [if_neg q,e]
    ·rw [if_pos q,e]
   have e2:b.fdiv c=Sw.rD t b:=by
    rw [Int.fdiv_eq_ediv_of_dvd d2]
    unfold Sw.rD
    rcases hc with ⟨e,q⟩ | ⟨e,q⟩
    ·rw [if_neg q,e]
    ·rw [if_pos q,e]
   rw [e1,e2]
   exact ⟨⟨c0,cz⟩,⟨c0,cz⟩,k⟩
  simp only [L2.tSeq]
  walk_at "rd"
  exact ite2 (fun c=>fin _ (.inr ⟨rfl,c⟩)) fun c=>fin _ (.inl ⟨rfl,c⟩)
def zzg:Sp:=fun vs H Q _=>∃ p q a b z,vs = [.ref p,.ref q]/\H p=some (.tup (fq a))/\H q=some (.tup (fq b))/\z<=2500/\Sw.SzQ z a/\Sw.SzQ z b/\∀ r,H r=none->Q (.ref r) (upd H r (.tup (fq (a+b))))
theorem zvo (T:Txt K mg c_NoName c_Taken c_NoClass c_NoPlace c_NoShare c_NoLength c_TooEarly c_NoneReady c_Members c_Chooser c_Starts c_Rounds c_Node c_Tree):Def P w K mg base (CXX P w) 3 "plus" ["one", "other"] zzg:=by
 have D_ratio:=zii (P:=P) (w:=w) (base:=base) T
 refine T.src_plus.okN (k:=2) zxg (fun vs H Q E h=>?_) (fun f cdv A outer s H vs Q E hr h=>?_)
 ·obtain ⟨p,q,a,b,z,rfl,_⟩:=h
  rfl
 ·obtain ⟨p,q,a,b,z,rfl,hp,hq,hz,s1,s2,k⟩:=h
  refine ⟨_,(zah (zbd (zax D_ratio (hr.mono (by decide)) rfl passN (zaa (pe_op zfd (pe_op zct (pe_ix (zaz K rfl) (pv 0) zam (fun _ _=>rfl)) (pe_ix (zaz K rfl) (pv 1) zam (fun _ _=>rfl))) (pe_op zct (pe_ix (zaz K rfl) (pv 1) zam (fun _ _=>rfl)) (pe_ix (zaz K rfl) (pv 0) zam (fun _ _=>rfl)))) (zaa (pe_op zct (pe_ix (zaz K rfl) (pv 0) zam (fun _ _=>rfl)) (pe_ix (zaz K rfl) (pv 1) zam (fun _ _=>rfl))) zaf))))),?_⟩
  show tRet _ _ [some (.ref p),some (.ref q)] H
  have hab:=Int.mul_ne_zero (Sw.q_den_ne a) (Sw.q_den_ne b)
  walk_at "rd"
  refine zbl (.of hp) rfl (zbl (.of hq) rfl ?_)
  walk_at "rd"
  refine ⟨⟨s1.n.mono (by omega),s2.d.mono (by omega)⟩,zbl (.of hq) rfl (zbl (.of hp) rfl ?_)⟩
  walk_at "rd"
  refine ⟨⟨s2.n.mono (by omega),s1.d.mono (by omega)⟩,zbl (.of hp) rfl (zbl (.of hq) rfl ?_)⟩
  walk_at "rd"
  refine ⟨⟨s1.d.mono (by omega),s2.d.mono (by omega)⟩,_,_,z+z,rfl,by omega,s1.d.mul s2.d,fun _=>?_,fun z=>absurd z hab⟩
  rw [Sw.add_q]
  exact k
def zxh:Sp:=fun vs H Q _=>∃ p q a b z,vs = [.ref p,.ref q]/\H p=some (.tup (fq a))/\H q=some (.tup (fq b))/\z<=2400/\Sw.SzQ z a/\Sw.SzQ z b/\∀ r,H r=none->Q (.ref r) (upd H r (.tup (fq (a-b))))
theorem zxi (T:Txt K mg c_NoName c_Taken c_NoClass c_NoPlace c_NoShare c_NoLength c_TooEarly c_NoneReady c_Members c_Chooser c_Starts c_Rounds c_Node c_Tree):Def P w K mg base (CXX P w) 3 "minus" ["one", "other"] zxh:=by
 have D_ratio:=zii (P:=P) (w:=w) (base:=base) T
 refine T.src_minus.okN (k:=2) zun (fun vs H Q E h=>?_) (fun f cdv A outer s H vs Q E hr h=>?_)
 ·obtain ⟨p,q,a,b,z,rfl,_⟩:=h
  rfl
 ·obtain ⟨p,q,a,b,z,rfl,hp,hq,hz,s1,s2,k⟩:=h
  refine ⟨_,(zah (zbd (zax D_ratio (hr.mono (by decide)) rfl passN (zaa (pe_op zmm (pe_op zct (pe_ix (zaz K rfl) (pv 0) zam (fun _ _=>rfl)) (pe_ix (zaz K rfl) (pv 1) zam (fun _ _=>rfl))) (pe_op zct (pe_ix (zaz K rfl) (pv 1) zam (fun _ _=>rfl)) (pe_ix (zaz K rfl) (pv 0) zam (fun _ _=>rfl)))) (zaa (pe_op zct (pe_ix (zaz K rfl) (pv 0) zam (fun _ _=>rfl)) (pe_ix (zaz K rfl) (pv 1) zam (fun _ _=>rfl))) zaf))))),?_⟩
  show tRet _ _ [some (.ref p),some (.ref q)] H
  have hab:=Int.mul_ne_zero (Sw.q_den_ne a) (Sw.q_den_ne b)
  walk_at "rd"
  refine zbl (.of hp) rfl (zbl (.of hq) rfl ?_)
  walk_at "rd"
  refine ⟨⟨s1.n.mono (by omega),s2.d.mono (by omega)⟩,zbl (.of hq) rfl (zbl (.of hp) rfl ?_)⟩
  walk_at "rd"
  refine ⟨⟨s2.n.mono (by omega),s1.d.mono (by omega)⟩,zbl (.of hp) rfl (zbl (.of hq) rfl ?_)⟩
  walk_at "rd"
  refine ⟨⟨s1.d.mono (by omega),s2.d.mono (by omega)⟩,_,_,z+z,rfl,by omega,s1.d.mul s2.d,fun _=>?_,fun z=>absurd z hab⟩
  rw [Sw.sub_q]
  exact k
def zxj:Sp:=fun vs H Q _=>∃ p q a b,vs = [.ref p,.ref q]/\H p=some (.tup (fq a))/\H q=some (.tup (fq b))/\Sw.SzQ 5000 a/\Sw.SzQ 5000 b/\Q (.bl (decide (a<b))) H
theorem zsz (T:Txt K mg c_NoName c_Taken c_NoClass c_NoPlace c_NoShare c_NoLength c_TooEarly c_NoneReady c_Members c_Chooser c_Starts c_Rounds c_Node c_Tree):Def P w K mg base (CXX P w) 1 "under" ["one", "other"] zxj:=by
 refine T.src_under.okN (k:=0) zuo (fun vs H Q E h=>?_) (fun f cdv A outer s H vs Q E hr h=>?_)
 ·obtain ⟨p,q,a,b,rfl,_⟩:=h
  rfl
 ·obtain ⟨p,q,a,b,rfl,hp,hq,s1,s2,k⟩:=h
  refine ⟨_,(zah (zbd (zgo op_lt (pe_op zct (pe_ix (zaz K rfl) (pv 0) zam (fun _ _=>rfl)) (pe_ix (zaz K rfl) (pv 1) zam (fun _ _=>rfl))) (pe_op zct (pe_ix (zaz K rfl) (pv 1) zam (fun _ _=>rfl)) (pe_ix (zaz K rfl) (pv 0) zam (fun _ _=>rfl))) (zbk _)))),?_⟩
  show tRet _ _ [some (.ref p),some (.ref q)] H
  walk_at "rd"
  refine zbl (.of hp) rfl (zbl (.of hq) rfl ?_)
  walk_at "rd"
  refine ⟨⟨s1.n,s2.d⟩,zbl (.of hq) rfl (zbl (.of hp) rfl ?_)⟩
  walk_at "rd"
  refine ⟨⟨s2.n,s1.d⟩,?_⟩
  rw [show decide (a.num*(b.den:Int)<b.num*(a.den:Int))=decide (a<b) from decide_eq_decide.mpr Sw.q_lt]
  exact k
def zta:Sp:=fun vs H Q _=>∃ p q a b,vs = [.ref p,.ref q]/\H p=some (.tup (fq a))/\H q=some (.tup (fq b))/\Sw.SzQ 5000 a/\Sw.SzQ 5000 b/\∀ r,H r=none->Q (.ref r) (upd H r (.tup (fq (max a b))))
theorem znt (T:Txt K mg c_NoName c_Taken c_NoClass c_NoPlace c_NoShare c_NoLength c_TooEarly c_NoneReady c_Members c_Chooser c_Starts c_Rounds c_Node c_Tree):Def P w K mg base (CXX P w) 2 "greater" ["one", "other"] zta:=by
 have D_under:=zsz (P:=P) (w:=w) (base:=base) T
 refine T.src_greater.okN (k:=1) sc_greater (fun vs H Q E h=>?_) (fun f cdv A outer s H vs Q E hr h=>?_)
 ·obtain ⟨p,q,a,b,rfl,_⟩:=h
  rfl
 ·obtain ⟨p,q,a,b,rfl,hp,hq,s1,s2,k⟩:=h
  refine ⟨_,(zad (zbc (i:=2) sc_greater.nd rfl (by first|left;rfl|right;rfl) (ztn (zlb (zax D_under (hr.mono (by decide)) rfl passN (zaa (pv 0) (zaa (pv 1) zaf)))) (pv 1) (pv 0))) (zah (zbd (zfz (zaa (pe_ix (zaz K rfl) (pv 2) zam (fun _ _=>rfl)) (zaa (pe_ix (zaz K rfl) (pv 2) zam (fun _ _=>rfl)) zaf)))))),?_⟩
  show tSeq _ _ _ [some (.ref p),some (.ref q),none] H
  refine zae fun R hR=>?_
  have key:∀ x c,H x=some (.tup (fq c))->c=max a b->R [some (.ref p),some (.ref q),some (.ref x)] H:=fun x c hx e=>by
   refine hR _ _ ?_
   walk_at "rd"
   subst e
   exact zbl (.of hx) rfl (zbl (.of hx) rfl k)
  walk_at "rd"
  refine ⟨p,q,a,b,rfl,hp,hq,s1,s2,?_⟩
  walk_at "rd"
  exact ite2 (fun h=>key q b hq (by rw [Rat.max_def]; grind)) fun h=>key p a hp (by rw [Rat.max_def]; grind)
abbrev Rs (c:Addr) (H:Hp) (E:XK):Prop:=∀ e,H e=none->E (.ref e) none (upd H e (excO e c none false))
theorem rs_of {c:Addr} {H:Hp} {E:XK} (kx:Rs c H E) (xc:XC K c):∀ e,H e=none->∃ x x1,upd H e (excO e c none true) e=some (excO e x x1 true)/\XC K x/\E (.ref e) x1 (upd (upd H e (excO e c none true)) e (excO e x x1 false)):=fun e he=>⟨c,none,zac,xc,by rw [zex]; exact kx e he⟩
def spChk (cS:Addr):Sp:=fun vs H Q E=>∃ s,vs = [.int s]/\(1<=s/\s<=1000000->Q .non H)/\(¬ (1<=s/\s<=1000000)->Rs cS H E)
theorem zfv (T:Txt K mg c_NoName c_Taken c_NoClass c_NoPlace c_NoShare c_NoLength c_TooEarly c_NoneReady c_Members c_Chooser c_Starts c_Rounds c_Node c_Tree):Def P w K mg base (CXX P w) 1 "check_share" ["share"] (spChk c_NoShare):=by
 refine T.src_check_share.okX (k:=0) zkp (fun vs H Q E h=>?_) (fun f cdv A outer s H vs Q E hr h=>?_)
 ·obtain ⟨s,rfl,_⟩:=h
  rfl
 ·obtain ⟨s,rfl,k,kx⟩:=h
  refine ⟨_,(zah (ps_if (zir (zlp op_le op_le zam (pv 0) (zjc rfl T.mg_GREATEST_SHARE))) (zah (zcs K rfl rfl zek (zel T.ex_NoShare T.kp_NoShare rfl T.mg_NoShare (zaa zbz zaf)))) zbb)),?_⟩
  show tIfS _ _ _ _ [some (.int s)] H
  walk_at "rd"
  refine ite2 (fun c1=>ite2 (fun c2=>k ⟨c1,c2⟩) fun c2=>?_) fun c1=>?_
  ·exact rs_of (kx fun z=>c2 z.2) T.xc_NoShare
  ·exact rs_of (kx fun z=>c1 z.1) T.xc_NoShare
def spMI (C:Addr):Sp:=fun vs H Q _=>∃ x dx,vs = [.ref x]/\H x=some (.ins C dx [])/\∀ psh H',But x H H'->H psh=none->Mb C H' x psh []->Q .non H'
theorem znu (T:Txt K mg c_NoName c_Taken c_NoClass c_NoPlace c_NoShare c_NoLength c_TooEarly c_NoneReady c_Members c_Chooser c_Starts c_Rounds c_Node c_Tree):MkD P w K mg base (CXX P w) 1 c_Members ["self"] [[]] (spMI c_Members):=by
 refine T.in_Members.okN (k:=0) zkb (fun vs H Q E h=>?_) (fun f cdv A outer s H vs Q E hr h=>?_)
 ·obtain ⟨x,dx,rfl,_⟩:=h
  rfl
 ·obtain ⟨x,dx,rfl,hx,k⟩:=h
  refine ⟨_,(zah (zcg (pv 0) zhe rfl)),?_⟩
  show (_:TS) _ [some (.ref x)] H
  walk_at "rd"
  intro psh hpsh
  have nx:psh≠x:=fun z=>by rw [z,hx] at hpsh; cases hpsh
  have sn:=zap (o:=.dK []) hpsh
  refine zch (sn _ _ hx) T.cl_Members T.na_Members_shares (by simp) ?_
  refine k psh _ (fun b o n e=>?_) hpsh ⟨⟨dx,putF "shares" (.ref psh) [],zac,?_,fun m hm=>?_,?_⟩,?_⟩
  ·rw [zai n]; exact sn _ _ e
  ·rw [zem,if_pos rfl]
  ·rw [zem,if_neg hm]; rfl
  ·have:=zao (fs:=[]) (f := "shares") (v:=.ref psh)
   simp only [List.length_nil] at this
   omega
  ·rw [zai nx]; exact zac
def spCk (cC C:Addr):Sp:=fun vs H Q E=>∃ p psh nm x,vs = [.ref p,.str x]/\Mb C H p psh nm/\(shOf nm x≠none->Q .non H)/\(shOf nm x=none->Rs cC H E)
theorem zdb (T:Txt K mg c_NoName c_Taken c_NoClass c_NoPlace c_NoShare c_NoLength c_TooEarly c_NoneReady c_Members c_Chooser c_Starts c_Rounds c_Node c_Tree):MethD P w K mg base (CXX P w) 1 c_Members "check_name" ["self", "name"] [[]] (spCk c_NoClass c_Members):=by
 refine T.me_Members_check_name.okX (k:=0) zgf (fun vs H Q E h=>?_) (fun f cdv A outer s H vs Q E hr h=>?_)
 ·obtain ⟨p,psh,nm,x,rfl,_⟩:=h
  rfl
 ·obtain ⟨p,psh,nm,x,rfl,M,k,kx⟩:=h
  refine ⟨_,(zah (ps_if (zjh (zjr (hu_of hr) (pv 1) (zaq (pv 0) rfl))) (zah (zcs K rfl rfl zek (zel T.ex_NoClass T.kp_NoClass rfl T.mg_NoClass (zaa zbz zaf)))) zbb)),?_⟩
  show tIfS _ _ _ _ [some (.ref p),some (.str x)] H
  obtain ⟨dx,fs,hp,hf,hno,hlen⟩:=M.ex
  walk_at "rd"
  refine zaj hp T.cl_Members T.na_Members_shares hf ?_
  walk_at "rd"
  refine ⟨_,DGet.k (k:=Sum.inr x) M.hs,?_⟩
  rw [zfu]
  cases e:shOf nm x with
  | none=>exact rs_of (kx e) T.xc_NoClass
  | some v=>exact k (by rw [e]; simp)
def zzh (cT cS C:Addr):Sp:=fun vs H Q E=>∃ p psh nm x s,vs = [.ref p,.str x,.int s]/\Mb C H p psh nm/\nm.length<900/\(shOf nm x≠none->Rs cT H E)/\(shOf nm x=none->¬ (1<=s/\s<=1000000)->Rs cS H E)/\(shOf nm x=none->1<=s/\s<=1000000->Q .non (upd H psh (.dK (kvsOf (nm++[(x,s)])))))
theorem zhq (T:Txt K mg c_NoName c_Taken c_NoClass c_NoPlace c_NoShare c_NoLength c_TooEarly c_NoneReady c_Members c_Chooser c_Starts c_Rounds c_Node c_Tree):MethD P w K mg base (CXX P w) 2 c_Members "put" ["self", "name", "share"] [[]] (zzh c_Taken c_NoShare c_Members):=by
 have D_check_share:=zfv (P:=P) (w:=w) (base:=base) T
 refine T.me_Members_put.okX (k:=1) zkr (fun vs H Q E h=>?_) (fun f cdv A outer s H vs Q E hr h=>?_)
 ·obtain ⟨p,psh,nm,x,s,rfl,_⟩:=h
  rfl
 ·obtain ⟨p,psh,nm,x,s,rfl,M,hn,kt,ks,k⟩:=h
  refine ⟨_,(zad (ps_if (zjh (zpl (hu_of hr) (pv 1) (zaq (pv 0) rfl))) (zah (zcs K rfl rfl zek (zel T.ex_Taken T.kp_Taken rfl T.mg_Taken (zaa zbz zaf)))) zbb) (zad (zay (zax D_check_share (hr.mono (by decide)) rfl passF (zaa (pv 2) zaf))) (zah (zez (hu_of hr) (zaq (pv 0) rfl) (pv 1) (pv 2) rfl)))),?_⟩
  show tSeq _ _ _ [some (.ref p),some (.str x),some (.int s)] H
  obtain ⟨dx,fs,hp,hf,hno,hlen⟩:=M.ex
  refine zae fun R hR=>?_
  walk_at "rd"
  refine zaj hp T.cl_Members T.na_Members_shares hf ?_
  walk_at "rd"
  refine ⟨_,DGet.k (k:=Sum.inr x) M.hs,?_⟩
  rw [zfu]
  cases hx:shOf nm x with
  | some v=>exact rs_of (kt (by rw [hx]; simp)) T.xc_Taken
  | none =>
   refine hR _ _ ?_
   refine zae fun R hR=>?_
   walk_at "rd"
   refine ⟨s,rfl,fun c=>hR _ _ ?_,fun c=>ks hx c⟩
   walk_at "rd"
   refine zaj hp T.cl_Members T.na_Members_shares hf ?_
   walk_at "rd"
   refine ⟨_,DPut.k (k:=Sum.inr x) M.hs (line_lt (by rw [zgd]; omega)),?_⟩
   rw [zpn hx]
   exact k hx c
def nmV (nm:Nm):List V:=nm.map fun x=>.str x.1
def zup (C:Addr):Sp:=fun vs H Q _=>∃ p psh nm,vs = [.ref p]/\Mb C H p psh nm/\∀ l,H l=none->Q (.ref l) (upd H l (.lst (nmV nm)))
theorem zgg (T:Txt K mg c_NoName c_Taken c_NoClass c_NoPlace c_NoShare c_NoLength c_TooEarly c_NoneReady c_Members c_Chooser c_Starts c_Rounds c_Node c_Tree):MethD P w K mg base (CXX P w) 1 c_Members "names" ["self"] [[]] (zup c_Members):=by
 refine T.me_Members_names.okN (k:=0) ziy (fun vs H Q E h=>?_) (fun f cdv A outer s H vs Q E hr h=>?_)
 ·obtain ⟨p,psh,nm,rfl,_⟩:=h
  rfl
 ·obtain ⟨p,psh,nm,rfl,M,k⟩:=h
  refine ⟨_,(zah (zbd (zrh (zql rfl) rfl T.no_list boot_list (zaa (zaq (pv 0) rfl) zaf)))),?_⟩
  show tRet _ _ [some (.ref p)] H
  obtain ⟨dx,fs,hp,hf,hno,hlen⟩:=M.ex
  walk_at "rd"
  refine zaj hp T.cl_Members T.na_Members_shares hf ?_
  refine ⟨psh,_,rfl,M.hs,fun l hl=>?_⟩
  have e:(kvsOf nm).map (fun kv=>kV kv.1)=nmV nm:=by unfold L2.kvsOf nmV; rw [List.map_map]; rfl
  rw [e]
  exact k l hl
def spMsh (cC C:Addr):Sp:=fun vs H Q E=>∃ p psh nm x,vs = [.ref p,.str x]/\Mb C H p psh nm/\(shOf nm x=none->Rs cC H E)/\∀ s,shOf nm x=some s->Q (.int s) H
theorem zfi (T:Txt K mg c_NoName c_Taken c_NoClass c_NoPlace c_NoShare c_NoLength c_TooEarly c_NoneReady c_Members c_Chooser c_Starts c_Rounds c_Node c_Tree):MethD P w K mg base (CXX P w) 2 c_Members "share_of" ["self", "name"] [[]] (spMsh c_NoClass c_Members):=by
 have M_Members_check_name:=zdb (P:=P) (w:=w) (base:=base) T
 refine T.me_Members_share_of.okX (k:=1) zgq (fun vs H Q E h=>?_) (fun f cdv A outer s H vs Q E hr h=>?_)
 ·obtain ⟨p,psh,nm,x,rfl,_⟩:=h
  rfl
 ·obtain ⟨p,psh,nm,x,rfl,M,kx,k⟩:=h
  refine ⟨_,(zad (zay (zar (dvs:=[]) M_Members_check_name (by simp) T.cl_Members (hr.mono (by decide)) passF (pv 0) (zaa (pv 1) zaf))) (zah (zbd (zdd (hu_of hr) (zaq (pv 0) rfl) (pv 1) (fun _ _=>rfl))))),?_⟩
  show tSeq _ _ _ [some (.ref p),some (.str x)] H
  obtain ⟨dx,fs,hp,hf,hno,hlen⟩:=M.ex
  refine zae fun R hR=>?_
  walk_at "rd"
  refine zav hp (hno _ (by decide +kernel)) ⟨p,psh,nm,x,rfl,M,fun hx=>hR _ _ ?_,kx⟩
  cases e:shOf nm x with
  | none=>exact absurd e hx
  | some s =>
   walk_at "rd"
   refine zaj hp T.cl_Members T.na_Members_shares hf ?_
   walk_at "rd"
   have hg:=DGet.k (k:=Sum.inr x) M.hs
   rw [zfu,e] at hg
   exact ⟨.int s,hg,k s e⟩
def spUp (C Cm:Addr):Sp:=fun vs H Q _=>∃ x dx most,vs = [.ref x,.int most]/\H x=some (.ins C dx [])/\∀ pm psh H',But x H H'->H pm=none->H psh=none->pm≠x->H' x=some (.ins C dx (putF "chosen" .non (putF "members" (.ref pm) (putF "most" (.int most) []))))->Mb Cm H' pm psh []->Q .non H'
theorem zgv (T:Txt K mg c_NoName c_Taken c_NoClass c_NoPlace c_NoShare c_NoLength c_TooEarly c_NoneReady c_Members c_Chooser c_Starts c_Rounds c_Node c_Tree):UpD P w K mg base (CXX P w) 3 c_Chooser "__init__" ["self", "most"] (spUp c_Starts c_Members):=by
 have K_Members:=znu (P:=P) (w:=w) (base:=base) T
 refine T.up_Starts_up_Chooser.okN (k:=2) zgi (fun vs H Q E h=>?_) (fun f cdv A outer s H vs Q E hr h=>?_)
 ·obtain ⟨x,dx,most,rfl,_⟩:=h
  rfl
 ·obtain ⟨x,dx,most,rfl,hx,k⟩:=h
  refine ⟨_,(zad (zcg (pv 0) (pv 1) rfl) (zad (zcg (pv 0) (znc (dvs:=[]) K_Members (by simp) (hr.mono (by decide)) passN rfl T.mg_Members) rfl) (zah (zcg (pv 0) zdn rfl)))),?_⟩
  show tSeq _ _ _ [some (.ref x),some (.int most)] H
  have l1:=zao (fs:=[]) (f := "most") (v:=.int most)
  simp only [List.length_nil] at l1
  refine zae fun R hR=>?_
  walk_at "rd"
  refine zch hx T.cl_Starts T.na_Starts_most (by simp) (hR _ _ ?_)
  refine zae fun R hR=>?_
  walk_at "rd"
  intro pm dm hpm hdm _
  have nx:pm≠x:=fun z=>by rw [z,zac] at hpm; cases hpm
  have npm:H pm=none:=by rw [zai nx] at hpm; exact hpm
  refine ⟨pm,dm,rfl,zac,fun psh H1 bt hpsh M=>⟨rfl,?_⟩⟩
  have s1:=bt.same (zdp hpm hdm) hpm
  have hx1:=s1 _ _ zac
  have l2:=zao (fs:=putF "most" (.int most) []) (f := "members") (v:=.ref pm)
  have fpsh:upd H x (.ins c_Starts dx (putF "most" (.int most) [])) psh=none:=(zdp hpm hdm).free hpsh
  have npx:psh≠x:=fun z=>by rw [z,zac] at fpsh; cases fpsh
  have npsh:H psh=none:=by rw [zai npx] at fpsh; exact fpsh
  refine zch hx1 T.cl_Starts T.na_Starts_members (by omega) (hR _ _ ?_)
  walk_at "rd"
  refine zch zac T.cl_Starts T.na_Starts_chosen (by omega) ?_
  rw [zex]
  refine k pm psh _ (fun b o n e=>?_) npm npsh nx zac ?_
  ·rw [zai n]
   exact s1 _ _ (by rw [zai n]; exact e)
  ·obtain ⟨d2,f2,g1,g2⟩:=M.ex
   exact ⟨⟨d2,f2,by rw [zai nx]; exact g1,g2⟩,by rw [zai npx]; exact M.hs⟩
def spSI (C Cm:Addr):Sp:=fun vs H Q _=>∃ x dx most,vs = [.ref x,.int most]/\H x=some (.ins C dx [])/\∀ (a:At5) H',a.p=x->But x H H'->H a.pm=none->H a.ps=none->H a.pt=none->H a.pg=none->Sx C Cm H' a most [] (fun _=>none) (fun _=>none) 0 .non 0->Q .non H'
theorem zuq (T:Txt K mg c_NoName c_Taken c_NoClass c_NoPlace c_NoShare c_NoLength c_TooEarly c_NoneReady c_Members c_Chooser c_Starts c_Rounds c_Node c_Tree):MkD P w K mg base (CXX P w) 4 c_Starts ["self", "most"] [[]] (spSI c_Starts c_Members):=by
 have U_Starts_up_Chooser:=zgv (P:=P) (w:=w) (base:=base) T
 have D_ratio:=zii (P:=P) (w:=w) (base:=base) T
 refine T.in_Starts.okN (k:=3) zks (fun vs H Q E h=>?_) (fun f cdv A outer s H vs Q E hr h=>?_)
 ·obtain ⟨x,dx,most,rfl,_⟩:=h
  rfl
 ·obtain ⟨x,dx,most,rfl,hx,k⟩:=h
  refine ⟨_,(zad (zay (zsg U_Starts_up_Chooser (hr.mono (by decide)) passN rfl T.mg_Chooser (zaa (pv 0) (zaa (pv 1) zaf)))) (zad (zcg (pv 0) (zax D_ratio (hr.mono (by decide)) rfl passN (zaa zam (zaa zam zaf))) rfl) (zad (zcg (pv 0) zhe rfl) (zah (zcg (pv 0) zhe rfl))))),?_⟩
  show tSeq _ _ _ [some (.ref x),some (.int most)] H
  refine zae fun R hR=>?_
  walk_at "rdc"
  refine ⟨x,dx,most,rfl,hx,fun pm psh H1 bt npm npsh nx hx1 M=>hR _ _ ?_⟩
  have l1:=zao (fs:=[]) (f := "most") (v:=.int most)
  have l2:=zao (fs:=putF "most" (.int most) []) (f := "members") (v:=.ref pm)
  have l3:=zao (fs:=putF "members" (.ref pm) (putF "most" (.int most) [])) (f := "chosen") (v:=.non)
  simp only [List.length_nil] at l1
  refine zae fun R hR=>?_
  walk_at "rd"
  refine ⟨0,1,1,rfl,by decide,Sw.Sz.one _,fun _ pr hpr=>?_,fun z=>absurd z (by decide)⟩
  have e0:((0:Int):Rat) / ((1:Int):Rat) = 0:=by
   have z0:((0:Int):Rat) = 0:=rfl
   rw [z0]; grind
  rw [e0]
  have s1:=zap (o:=.tup (fq 0)) hpr
  have hprt:upd H1 pr (.tup (fq 0)) pr=some (.tup (fq 0)):=zac
  have hx1:=s1 _ _ hx1
  have M:=M.same s1
  have bt:=bt.trans s1.but
  generalize upd H1 pr (.tup (fq 0))=H2 at s1 hprt hx1 M bt ⊢
  clear s1 hpr
  walk_at "rd"
  refine zch hx1 T.cl_Starts T.na_Starts_reached (by omega) (hR _ _ ?_)
  generalize hfs:putF "reached" (.ref pr) (putF "chosen" .non (putF "members" (.ref pm) (putF "most" (.int most) [])))=fs1
  have l4:fs1.length<=4:=by
   have:=zao (fs:=putF "chosen" .non (putF "members" (.ref pm) (putF "most" (.int most) []))) (f := "reached") (v:=.ref pr)
   rw [hfs] at this
   omega
  have hx2:upd H2 x (.ins c_Starts dx fs1) x=some (.ins c_Starts dx fs1):=zac
  have bt:But x H (upd H2 x (.ins c_Starts dx fs1)):=bt.trans zib
  have npx:psh≠x:=fun z=>by rw [z,hx] at npsh; cases npsh
  have nrx:pr≠x:=ne_of hprt hx1 (by intro z; cases z)
  have hprt:upd H2 x (.ins c_Starts dx fs1) pr=some (.tup (fq 0)):=by rw [zai nrx]; exact hprt
  have M:Mb c_Members (upd H2 x (.ins c_Starts dx fs1)) pm psh []:=by
   obtain ⟨d2,f2,g1,g2⟩:=M.ex
   exact ⟨⟨d2,f2,by rw [zai nx]; exact g1,g2⟩,by rw [zai npx]; exact M.hs⟩
  generalize upd H2 x (.ins c_Starts dx fs1)=H3 at hx2 bt hprt M ⊢
  refine zae fun R hR=>?_
  walk_at "rd"
  intro pt hpt
  have ntx:pt≠x:=fun z=>by rw [z,hx2] at hpt; cases hpt
  have s3:=zap (o:=.dK []) hpt
  have hptd:upd H3 pt (.dK []) pt=some (.dK []):=zac
  have nts:=zan M.hs hpt
  refine zch (s3 _ _ hx2) T.cl_Starts T.na_Starts_tags (by omega) (hR _ _ ?_)
  have free:∀ {H':Hp} {b:Addr},But x H H'->b≠x->H' b=none->H b=none:=fun {H' b} bt n e=>by
   cases q:H b with
   | none=>rfl
   | some o =>
    have:=bt _ _ n q
    rw [e] at this
    cases this
  have npt:=free bt ntx hpt
  have l5:=zao (fs:=fs1) (f := "tags") (v:=.ref pt)
  have keepx:∀ {H':Hp} {fs:List (Str×V)} {b:Addr} {o:HO},b≠x->H' b=some o->upd H' x (.ins c_Starts dx fs) b=some o:=fun n e=>by rw [zai n]; exact e
  have bt:But x H (upd (upd H3 pt (.dK [])) x (.ins c_Starts dx (putF "tags" (.ref pt) fs1))):=(bt.trans s3.but).trans zib
  have hprt:=keepx (fs:=putF "tags" (.ref pt) fs1) nrx (s3 _ _ hprt)
  have hptd:=keepx (fs:=putF "tags" (.ref pt) fs1) ntx hptd
  have M:Mb c_Members (upd (upd H3 pt (.dK [])) x (.ins c_Starts dx (putF "tags" (.ref pt) fs1))) pm psh []:=by
   obtain ⟨d2,f2,g1,g2⟩:=(M.same s3).ex
   exact ⟨⟨d2,f2,keepx nx g1,g2⟩,keepx npx (s3 _ _ M.hs)⟩
  have hx4:upd (upd H3 pt (.dK [])) x (.ins c_Starts dx (putF "tags" (.ref pt) fs1)) x=some (.ins c_Starts dx (putF "tags" (.ref pt) fs1)):=zac
  generalize upd (upd H3 pt (.dK [])) x (.ins c_Starts dx (putF "tags" (.ref pt) fs1))=H4 at bt hprt hptd M hx4 ⊢
  clear s3 hpt hx2
  walk_at "rd"
  intro pg hpg
  have ngx:pg≠x:=fun z=>by rw [z,hx4] at hpg; cases hpg
  have s5:=zap (o:=.dK []) hpg
  have ngt:=zan hptd hpg
  have ngs:=zan M.hs hpg
  refine zch (s5 _ _ hx4) T.cl_Starts T.na_Starts_greatest_steps (by omega) ?_
  have npg:=free bt ngx hpg
  refine k ⟨x,pm,psh,pt,pg⟩ _ rfl ((bt.trans s5.but).trans zib) npm npsh npt npg ⟨⟨dx,_,pr,zac,?_,keepx nrx (s5 _ _ hprt)⟩,?_,⟨[],keepx ntx (s5 _ _ hptd),fun y=>.inl ⟨rfl,rfl⟩,Nat.le_refl _⟩,⟨[],keepx ngx zac,fun y=>.inl ⟨rfl,rfl⟩,Nat.le_refl _⟩,Nat.le_refl _,ngt,nts.symm,ngs.symm,nx.symm⟩
  ·rw [<- hfs]
   exact FS.mk0 _ _ _ _ _ _
  ·obtain ⟨d2,f2,g1,g2⟩:=(M.same s5).ex
   exact ⟨⟨d2,f2,keepx nx g1,g2⟩,keepx npx (s5 _ _ M.hs)⟩
def zxk (C Cm:Addr):Sp:=fun vs H Q _=>∃ a most nm tg gs ck ch N,vs = [.ref a.p]/\Sx C Cm H a most nm tg gs ck ch N/\∀ l,H l=none->Q (.ref l) (upd H l (.lst (nmV nm)))
theorem zgn (T:Txt K mg c_NoName c_Taken c_NoClass c_NoPlace c_NoShare c_NoLength c_TooEarly c_NoneReady c_Members c_Chooser c_Starts c_Rounds c_Node c_Tree):MethD P w K mg base (CXX P w) 2 c_Starts "names" ["self"] [[]] (zxk c_Starts c_Members):=by
 have M_Members_names:=zgg (P:=P) (w:=w) (base:=base) T
 refine T.me_Starts_names.okN (k:=1) zkd (fun vs H Q E h=>?_) (fun f cdv A outer s H vs Q E hr h=>?_)
 ·obtain ⟨a,most,nm,tg,gs,ck,ch,N,rfl,_⟩:=h
  rfl
 ·obtain ⟨a,most,nm,tg,gs,ck,ch,N,rfl,S,k⟩:=h
  refine ⟨_,(zah (zbd (zci (dvs:=[]) M_Members_names (by simp) T.cl_Members (hr.mono (by decide)) passN (zaq (pv 0) rfl)))),?_⟩
  show tRet _ _ [some (.ref a.p)] H
  obtain ⟨dx,fs,pr,hp,ft,hr'⟩:=S.ex
  obtain ⟨dm,fm,hpm,hfm,hno,hlen⟩:=S.mb.ex
  walk_at "rd"
  refine zaj hp T.cl_Starts T.na_Starts_members ft.me ?_
  exact zav hpm (hno _ (by decide +kernel)) ⟨a.pm,a.ps,nm,rfl,S.mb,k⟩
def zxl (C Cm:Addr):Sp:=fun vs H Q _=>∃ a most nm tg gs ck ch N x,vs = [.ref a.p,.str x]/\Sx C Cm H a most nm tg gs ck ch N/\N<900/\∀ H',Own a H H'->Sx C Cm H' a most nm (setS tg x 0) (setS gs x 0) ck ch (N+2)->Q .non H'
theorem zkx (T:Txt K mg c_NoName c_Taken c_NoClass c_NoPlace c_NoShare c_NoLength c_TooEarly c_NoneReady c_Members c_Chooser c_Starts c_Rounds c_Node c_Tree):MethD P w K mg base (CXX P w) 3 c_Starts "enter" ["self", "name"] [[]] (zxl c_Starts c_Members):=by
 have D_ratio:=zii (P:=P) (w:=w) (base:=base) T
 refine T.me_Starts_enter.okN (k:=2) zkc (fun vs H Q E h=>?_) (fun f cdv A outer s H vs Q E hr h=>?_)
 ·obtain ⟨a,most,nm,tg,gs,ck,ch,N,x,rfl,_⟩:=h
  rfl
 ·obtain ⟨a,most,nm,tg,gs,ck,ch,N,x,rfl,S,hN,k⟩:=h
  refine ⟨_,(zad (zez (hu_of hr) (zaq (pv 0) rfl) (pv 1) (zax D_ratio (hr.mono (by decide)) rfl passN (zaa zam (zaa zam zaf))) rfl) (zah (zez (hu_of hr) (zaq (pv 0) rfl) (pv 1) (zax D_ratio (hr.mono (by decide)) rfl passN (zaa zam (zaa zam zaf))) rfl))),?_⟩
  show tSeq _ _ _ [some (.ref a.p),some (.str x)] H
  refine zae fun R hR=>?_
  walk_at "rd"
  refine ⟨0,1,1,rfl,by decide,Sw.Sz.one _,fun _ q hq=>?_,fun z=>absurd z (by decide)⟩
  rw [rat01]
  have sn:=zap (o:=.tup (fq 0)) hq
  have hqt:upd H q (.tup (fq 0)) q=some (.tup (fq 0)):=zac
  have S:=S.same sn
  generalize upd H q (.tup (fq 0))=H1 at sn hqt S ⊢
  obtain ⟨dx,fs,pr,hp,ft,hr'⟩:=S.ex
  obtain ⟨kvs,hpt,hv,hkl⟩:=S.dt.ex
  walk_at "rd"
  refine zaj hp T.cl_Starts T.na_Starts_tags ft.ta ?_
  walk_at "rd"
  refine ⟨_,DPut.k (k:=Sum.inr x) hpt (line_lt (by omega)),hR _ _ ?_⟩
  have lput:=zed kvs (Sum.inr x:Key) (.ref q)
  have S:=S.set_t (Nat.le_succ N) (RatD.put (x:=x) (r:=0) hpt hv (by omega) hqt)
  have ow:Own a H _:=sn.own.trans (own_t (a:=a) (H:=H1) (o:=.dK (putK kvs (Sum.inr x) (.ref q))))
  generalize upd H1 a.pt (.dK (putK kvs (Sum.inr x) (.ref q)))=H2 at S ow ⊢
  clear sn hqt hp ft hr' hpt hv hkl lput hq
  walk_at "rd"
  refine ⟨0,1,1,rfl,by decide,Sw.Sz.one _,fun _ q hq=>?_,fun z=>absurd z (by decide)⟩
  rw [rat01]
  have sn:=zap (o:=.tup (fq 0)) hq
  have hqt:upd H2 q (.tup (fq 0)) q=some (.tup (fq 0)):=zac
  have S:=S.same sn
  generalize upd H2 q (.tup (fq 0))=H3 at sn hqt S ⊢
  obtain ⟨dx,fs,pr,hp,ft,hr'⟩:=S.ex
  obtain ⟨kvs,hpg,hv,hkl⟩:=S.dg.ex
  walk_at "rd"
  refine zaj hp T.cl_Starts T.na_Starts_greatest_steps ft.gr ?_
  walk_at "rd"
  refine ⟨_,DPut.k (k:=Sum.inr x) hpg (line_lt (by omega)),?_⟩
  have lput:=zed kvs (Sum.inr x:Key) (.ref q)
  exact k _ ((ow.trans sn.own).trans own_g) (S.set_g (Nat.le_succ (N+1)) (RatD.put (x:=x) (r:=0) hpg hv (by omega) hqt))
def spPut (cT cS C Cm:Addr):Sp:=fun vs H Q E=>∃ a most nm tg gs ck ch N x s,vs = [.ref a.p,.str x,.int s]/\Sx C Cm H a most nm tg gs ck ch N/\N<890/\(shOf nm x≠none->Rs cT H E)/\(shOf nm x=none->¬ (1<=s/\s<=1000000)->Rs cS H E)/\(shOf nm x=none->1<=s/\s<=1000000->∀ H',Own a H H'->Sx C Cm H' a most (nm++[(x,s)]) (setS tg x 0) (setS gs x 0) ck ch (N+3)->Q .non H')
theorem znv (T:Txt K mg c_NoName c_Taken c_NoClass c_NoPlace c_NoShare c_NoLength c_TooEarly c_NoneReady c_Members c_Chooser c_Starts c_Rounds c_Node c_Tree):MethD P w K mg base (CXX P w) 4 c_Starts "put" ["self", "name", "share"] [[]] (spPut c_Taken c_NoShare c_Starts c_Members):=by
 have M_Members_put:=zhq (P:=P) (w:=w) (base:=base) T
 have M_Starts_enter:=zkx (P:=P) (w:=w) (base:=base) T
 refine T.me_Starts_put.okX (k:=3) zma (fun vs H Q E h=>?_) (fun f cdv A outer s H vs Q E hr h=>?_)
 ·obtain ⟨a,most,nm,tg,gs,ck,ch,N,x,s,rfl,_⟩:=h
  rfl
 ·obtain ⟨a,most,nm,tg,gs,ck,ch,N,x,s,rfl,S,hN,kt,ks,k⟩:=h
  refine ⟨_,(zad (zay (zar (dvs:=[]) M_Members_put (by simp) T.cl_Members (hr.mono (by decide)) passF (zaq (pv 0) rfl) (zaa (pv 1) (zaa (pv 2) zaf)))) (zah (zay (zar (dvs:=[]) M_Starts_enter (by simp) T.cl_Starts (hr.mono (by decide)) passF (pv 0) (zaa (pv 1) zaf))))),?_⟩
  show tSeq _ _ _ [some (.ref a.p),some (.str x),some (.int s)] H
  obtain ⟨dx,fs,pr,hp,ft,hr'⟩:=S.ex
  obtain ⟨dm,fm,hpm,hfm,hno,hlen⟩:=S.mb.ex
  have nl:=S.nl
  refine zae fun R hR=>?_
  walk_at "rd"
  refine zaj hp T.cl_Starts T.na_Starts_members ft.me ?_
  refine zav hpm (hno _ (by decide +kernel)) ⟨a.pm,a.ps,nm,x,s,rfl,S.mb,by omega,kt,ks,fun hx hs=>hR _ _ ?_⟩
  have S:=S.set_s (nm':=nm++[(x,s)]) (Nat.le_succ N) (by simp; omega)
  have ow:Own a H (upd H a.ps (.dK (kvsOf (nm++[(x,s)])))):=own_s
  generalize upd H a.ps (.dK (kvsOf (nm++[(x,s)])))=H1 at S ow ⊢
  obtain ⟨dx,fs,pr,hp,ft,hr'⟩:=S.ex
  walk_at "rd"
  exact zav hp (ft.no _ (by decide +kernel) (by decide +kernel) (by decide +kernel) (by decide +kernel) (by decide +kernel) (by decide +kernel)) ⟨a,most,_,tg,gs,ck,ch,N+1,x,rfl,S,by omega,fun H' o' S'=>k hx hs H' (ow.trans o') S'⟩
def zxm (cC C Cm:Addr):Sp:=fun vs H Q E=>∃ a most nm tg gs ck ch N x,vs = [.ref a.p,.str x]/\Sx C Cm H a most nm tg gs ck ch N/\(shOf nm x=none->Rs cC H E)/\∀ s,shOf nm x=some s->Q (.int s) H
theorem zij (T:Txt K mg c_NoName c_Taken c_NoClass c_NoPlace c_NoShare c_NoLength c_TooEarly c_NoneReady c_Members c_Chooser c_Starts c_Rounds c_Node c_Tree):MethD P w K mg base (CXX P w) 3 c_Starts "share_of" ["self", "name"] [[]] (zxm c_NoClass c_Starts c_Members):=by
 have M_Members_share_of:=zfi (P:=P) (w:=w) (base:=base) T
 refine T.me_Starts_share_of.okX (k:=2) zhm (fun vs H Q E h=>?_) (fun f cdv A outer s H vs Q E hr h=>?_)
 ·obtain ⟨a,most,nm,tg,gs,ck,ch,N,x,rfl,_⟩:=h
  rfl
 ·obtain ⟨a,most,nm,tg,gs,ck,ch,N,x,rfl,S,kx,k⟩:=h
  refine ⟨_,(zah (zbd (zar (dvs:=[]) M_Members_share_of (by simp) T.cl_Members (hr.mono (by decide)) passF (zaq (pv 0) rfl) (zaa (pv 1) zaf)))),?_⟩
  show tRet _ _ [some (.ref a.p),some (.str x)] H
  obtain ⟨dx,fs,pr,hp,ft,hr'⟩:=S.ex
  obtain ⟨dm,fm,hpm,hfm,hno,hlen⟩:=S.mb.ex
  walk_at "rd"
  refine zaj hp T.cl_Starts T.na_Starts_members ft.me ?_
  exact zav hpm (hno _ (by decide +kernel)) ⟨a.pm,a.ps,nm,x,rfl,S.mb,kx,k⟩
def zqa (cC C Cm:Addr):Sp:=fun vs H Q E=>∃ a most nm tg gs ck ch N x,vs = [.ref a.p,.str x]/\Sx C Cm H a most nm tg gs ck ch N/\(shOf nm x=none->Rs cC H E)/\(shOf nm x≠none->∃ t,tg x=some t/\Sw.SzQ 5000 t/\Sw.SzQ 5000 ck/\∀ q,H q=none->Q (.ref q) (upd H q (.tup (fq (max t ck)))))
theorem zkg (T:Txt K mg c_NoName c_Taken c_NoClass c_NoPlace c_NoShare c_NoLength c_TooEarly c_NoneReady c_Members c_Chooser c_Starts c_Rounds c_Node c_Tree):MethD P w K mg base (CXX P w) 3 c_Starts "stands" ["self", "name"] [[]] (zqa c_NoClass c_Starts c_Members):=by
 have M_Members_check_name:=zdb (P:=P) (w:=w) (base:=base) T
 have D_greater:=znt (P:=P) (w:=w) (base:=base) T
 refine T.me_Starts_stands.okX (k:=2) ziz (fun vs H Q E h=>?_) (fun f cdv A outer s H vs Q E hr h=>?_)
 ·obtain ⟨a,most,nm,tg,gs,ck,ch,N,x,rfl,_⟩:=h
  rfl
 ·obtain ⟨a,most,nm,tg,gs,ck,ch,N,x,rfl,S,kx,k⟩:=h
  refine ⟨_,(zad (zay (zar (dvs:=[]) M_Members_check_name (by simp) T.cl_Members (hr.mono (by decide)) passF (zaq (pv 0) rfl) (zaa (pv 1) zaf))) (zah (zbd (zax D_greater (hr.mono (by decide)) rfl passF (zaa (zdd (hu_of hr) (zaq (pv 0) rfl) (pv 1) (fun _ _=>rfl)) (zaa (zaq (pv 0) rfl) zaf)))))),?_⟩
  show tSeq _ _ _ [some (.ref a.p),some (.str x)] H
  obtain ⟨dx,fs,pr,hp,ft,hr'⟩:=S.ex
  obtain ⟨dm,fm,hpm,hfm,hno,hlen⟩:=S.mb.ex
  obtain ⟨kvs,hpt,hv,hkl⟩:=S.dt.ex
  refine zae fun R hR=>?_
  walk_at "rd"
  refine zaj hp T.cl_Starts T.na_Starts_members ft.me ?_
  refine zav hpm (hno _ (by decide +kernel)) ⟨a.pm,a.ps,nm,x,rfl,S.mb,fun hx=>hR _ _ ?_,kx⟩
  obtain ⟨t,ht,zt,zc,k⟩:=k hx
  walk_at "rd"
  refine zaj hp T.cl_Starts T.na_Starts_tags ft.ta ?_
  walk_at "rd"
  rcases hv x with ⟨z,_⟩ | ⟨r,q,e1,e2,e3⟩
  ·rw [ht] at z; cases z
  ·rw [ht] at e1
   cases e1
   have hg:=DGet.k (k:=Sum.inr x) hpt
   rw [e2] at hg
   refine ⟨.ref q,hg,?_⟩
   refine zaj hp T.cl_Starts T.na_Starts_reached ft.re ?_
   exact ⟨q,pr,t,ck,rfl,e3,hr',zt,zc,k⟩
def zur (C Cm:Addr):Sp:=fun vs H Q _=>∃ a most nm tg gs ck ch N x s g len,vs = [.ref a.p,.str x,.int len]/\Sx C Cm H a most nm tg gs ck ch N/\N<900/\shOf nm x=some s/\tg x≠none/\gs x=some g/\1<=s/\s<=1000000/\0<=len/\len<=1000000/\Sw.SzQ 2490 ck/\Sw.SzQ 5000 g /\
 ∀ H',Own a H H'->Sx C Cm H' a most nm (setS tg x (ck+(len:Rat) / (s:Rat))) (setS gs x (max g ((len:Rat) / (s:Rat)))) ck ch (N+2)->Q .non H'
theorem zkh (T:Txt K mg c_NoName c_Taken c_NoClass c_NoPlace c_NoShare c_NoLength c_TooEarly c_NoneReady c_Members c_Chooser c_Starts c_Rounds c_Node c_Tree):MethD P w K mg base (CXX P w) 4 c_Starts "charge" ["self", "name", "length"] [[]] (zur c_Starts c_Members):=by
 have D_ratio:=zii (P:=P) (w:=w) (base:=base) T
 have D_plus:=zvo (P:=P) (w:=w) (base:=base) T
 have D_greater:=znt (P:=P) (w:=w) (base:=base) T
 have M_Starts_share_of:=zij (P:=P) (w:=w) (base:=base) T
 refine T.me_Starts_charge.okN (k:=3) sc_Starts_charge (fun vs H Q E h=>?_) (fun f cdv A outer s H vs Q E hr h=>?_)
 ·obtain ⟨a,most,nm,tg,gs,ck,ch,N,x,s,g,len,rfl,_⟩:=h
  rfl
 ·obtain ⟨a,most,nm,tg,gs,ck,ch,N,x,s,g,len,rfl,S,hN,hx,ht,hg,s0,s1,n0,n1,zc,zg,k⟩:=h
  refine ⟨_,(zad (zbc (i:=3) sc_Starts_charge.nd rfl (by first|left;rfl|right;rfl) (zax D_ratio (hr.mono (by decide)) rfl passN (zaa (pv 2) (zaa (zar (dvs:=[]) M_Starts_share_of (by simp) T.cl_Starts (hr.mono (by decide)) passN (pv 0) (zaa (pv 1) zaf)) zaf)))) (zad (zez (hu_of hr) (zaq (pv 0) rfl) (pv 1) (zax D_plus (hr.mono (by decide)) rfl passN (zaa (zaq (pv 0) rfl) (zaa (pv 3) zaf))) rfl) (zah (zez (hu_of hr) (zaq (pv 0) rfl) (pv 1) (zax D_greater (hr.mono (by decide)) rfl passN (zaa (zdd (hu_of hr) (zaq (pv 0) rfl) (pv 1) (fun _ _=>rfl)) (zaa (pv 3) zaf))) rfl)))),?_⟩
  show tSeq _ _ _ [some (.ref a.p),some (.str x),some (.int len),none] H
  have zs:Sw.Sz 70 s:=Sw.Sz.r18 (by omega) (by omega)
  have zn:Sw.Sz 70 len:=Sw.Sz.r18 (by omega) (by omega)
  have zd:Sw.SzQ 2490 ((len:Rat) / (s:Rat)):=(Sw.SzQ.of (by omega) rfl zn zs).mono (by decide)
  obtain ⟨dx,fs,pr,hp,ft,hr'⟩:=S.ex
  refine zae fun R hR=>?_
  walk_at "rd"
  refine zav hp (ft.no _ (by decide +kernel) (by decide +kernel) (by decide +kernel) (by decide +kernel) (by decide +kernel) (by decide +kernel)) ⟨a,most,nm,tg,gs,ck,ch,N,x,rfl,S,fun z=>(by rw [hx] at z; cases z),fun s' e'=>?_⟩
  rw [hx] at e'
  cases e'
  refine ⟨len,s,70,rfl,by decide,zs,fun _ q hq=>hR _ _ ?_,fun z=>absurd z (by omega)⟩
  have sn:=zap (o:=.tup (fq ((len:Rat) / (s:Rat)))) hq
  have hqt:upd H q (.tup (fq ((len:Rat) / (s:Rat)))) q=some (.tup (fq ((len:Rat) / (s:Rat)))):=zac
  have S:=S.same sn
  generalize upd H q (.tup (fq ((len:Rat) / (s:Rat))))=H1 at sn hqt S ⊢
  obtain ⟨dx,fs,pr,hp,ft,hr'⟩:=S.ex
  refine zae fun R hR=>?_
  walk_at "rd"
  refine zaj hp T.cl_Starts T.na_Starts_reached ft.re ?_
  refine ⟨pr,q,ck,_,2490,rfl,hr',hqt,by decide,zc,zd,fun q2 hq2=>?_⟩
  have sn2:=zap (o:=.tup (fq (ck+(len:Rat) / (s:Rat)))) hq2
  have hqt2:upd H1 q2 (.tup (fq (ck+(len:Rat) / (s:Rat)))) q2=some (.tup (fq (ck+(len:Rat) / (s:Rat)))):=zac
  have S:=S.same sn2
  have hqt:=sn2 _ _ hqt
  have sn:=sn.trans sn2
  generalize upd H1 q2 (.tup (fq (ck+(len:Rat) / (s:Rat))))=H2 at sn hqt hqt2 S ⊢
  obtain ⟨dx,fs,pr,hp,ft,hr'⟩:=S.ex
  obtain ⟨kvs,hpt,hv,hkl⟩:=S.dt.ex
  walk_at "rd"
  refine zaj hp T.cl_Starts T.na_Starts_tags ft.ta ?_
  walk_at "rd"
  refine ⟨_,DPut.k (k:=Sum.inr x) hpt (line_lt (by omega)),hR _ _ ?_⟩
  have lput:=zed kvs (Sum.inr x:Key) (.ref q2)
  have S:=S.set_t (Nat.le_succ N) (RatD.put (x:=x) hpt hv (by omega) hqt2)
  have ow:Own a H _:=sn.own.trans (own_t (a:=a) (H:=H2) (o:=.dK (putK kvs (Sum.inr x) (.ref q2))))
  have hqt:upd H2 a.pt (.dK (putK kvs (Sum.inr x) (.ref q2))) q=some (.tup (fq ((len:Rat) / (s:Rat)))):=by rw [zai (ne_of hqt hpt (by intro z; cases z))]; exact hqt
  generalize upd H2 a.pt (.dK (putK kvs (Sum.inr x) (.ref q2)))=H3 at S ow hqt ⊢
  clear sn sn2 hqt2 hp ft hr' hpt hv hkl lput hq hq2
  obtain ⟨dx,fs,pr,hp,ft,hr'⟩:=S.ex
  obtain ⟨kvs,hpg,hv,hkl⟩:=S.dg.ex
  walk_at "rd"
  refine zaj hp T.cl_Starts T.na_Starts_greatest_steps ft.gr ?_
  walk_at "rd"
  rcases hv x with ⟨z,_⟩ | ⟨r,q3,e1,e2,e3⟩
  ·rw [hg] at z; cases z
  ·rw [hg] at e1
   cases e1
   have hd:=DGet.k (k:=Sum.inr x) hpg
   rw [e2] at hd
   refine ⟨.ref q3,hd,?_⟩
   refine ⟨q3,q,g,_,rfl,e3,hqt,zg,zd.mono (by decide),fun q4 hq4=>?_⟩
   have sn:=zap (o:=.tup (fq (max g ((len:Rat) / (s:Rat))))) hq4
   have hqt4:upd H3 q4 (.tup (fq (max g ((len:Rat) / (s:Rat))))) q4=some (.tup (fq (max g ((len:Rat) / (s:Rat))))):=zac
   have S:=S.same sn
   generalize upd H3 q4 (.tup (fq (max g ((len:Rat) / (s:Rat)))))=H4 at sn hqt4 S ⊢
   obtain ⟨dx,fs,pr,hp,ft,hr'⟩:=S.ex
   obtain ⟨kvs,hpg,hv,hkl⟩:=S.dg.ex
   walk_at "rd"
   refine zaj hp T.cl_Starts T.na_Starts_greatest_steps ft.gr ?_
   walk_at "rd"
   refine ⟨_,DPut.k (k:=Sum.inr x) hpg (line_lt (by omega)),?_⟩
   have lput:=zed kvs (Sum.inr x:Key) (.ref q4)
   exact k _ ((ow.trans sn.own).trans own_g) (S.set_g (Nat.le_succ (N+1)) (RatD.put (x:=x) hpg hv (by omega) hqt4))
theorem zop (y:Str) (rd:List Str):inV (.str y) (rd.map V.str)=decide (y∈rd):=by
 unfold inV
 rw [List.any_map]
 rw [Bool.eq_iff_iff,List.any_eq_true,decide_eq_true_eq]
 constructor
 ·rintro ⟨z,hz,e⟩
  have e:eqV (.str z) (.str y)=true:=e
  have:z=y:=by simpa [eqV] using e
  rw [<- this]; exact hz
 ·intro h
  exact ⟨y,h,by show eqV (.str y) (.str y)=true; simp [eqV]⟩
theorem zhr (rd:List Str):(rd.map V.str).all flatV=true:=by
 rw [List.all_eq_true]
 intro v hv
 obtain ⟨x,_,rfl⟩:=List.mem_map.mp hv
 rfl
def zzi (C Cm:Addr):Sp:=fun vs H Q _=>∃ a most nm tg gs ck ch N rl rd,∃ tf:Str->Rat,vs = [.ref a.p,.ref rl]/\Sx C Cm H a most nm tg gs ck ch N/\H rl=some (.lst ((rd:List Str).map V.str))/\nm.length<=900/\(∀ x∈nm.map (·.1),tg x=some (tf x)/\Sw.SzQ 5000 (tf x))/\Sw.SzQ 5000 ck/\(∃ x∈nm.map (·.1),x∈rd) /\
 ∀ x H',pickF (fun x=>decide (x∈rd)) (fun x=>max (tf x) ck) (nm.map (·.1)) none=some x->Own a H H'->Sx C Cm H' a most nm tg gs (max (tf x) ck) ch N->Q (.str x) H'
theorem zme (T:Txt K mg c_NoName c_Taken c_NoClass c_NoPlace c_NoShare c_NoLength c_TooEarly c_NoneReady c_Members c_Chooser c_Starts c_Rounds c_Node c_Tree):MethD P w K mg base (CXX P w) 4 c_Starts "pick" ["self", "ready"] [[]] (zzi c_Starts c_Members):=by
 have M_Starts_names:=zgn (P:=P) (w:=w) (base:=base) T
 have M_Starts_stands:=zkg (P:=P) (w:=w) (base:=base) T
 have D_under:=zsz (P:=P) (w:=w) (base:=base) T
 refine T.me_Starts_pick.okN (k:=3) sc_Starts_pick (fun vs H Q E h=>?_) (fun f cdv A outer s H vs Q E hr h=>?_)
 ·obtain ⟨a,most,nm,tg,gs,ck,ch,N,rl,rd,tf,rfl,_⟩:=h
  rfl
 ·obtain ⟨a,most,nm,tg,gs,ck,ch,N,rl,rd,tf,rfl,S,hrl,hn,ht,zc,hex,k⟩:=h
  refine ⟨_,(zad (zbc (i:=2) sc_Starts_pick.nd rfl (by first|left;rfl|right;rfl) zdn) (zad (zis PassesOwn.never rfl (zcr K rfl (zci (dvs:=[]) M_Starts_names (by simp) T.cl_Starts (hr.mono (by decide)) passN (pv 0))) (zbm (i:=3) sc_Starts_pick.nd rfl (by first|left;rfl|right;rfl)) (zah (ps_if (PW.pt (zlc (zba (zsh K rfl) (pv 3) (pv 1) rfl) (zji (PW.pt (pw_or (zba zoy (pv 2) zdn (zbk _)) (zml (zlb (zax D_under (hr.mono (by decide)) rfl passN (zaa (zar (dvs:=[]) M_Starts_stands (by simp) T.cl_Starts (hr.mono (by decide)) passN (pv 0) (zaa (pv 3) zaf)) (zaa (zar (dvs:=[]) M_Starts_stands (by simp) T.cl_Starts (hr.mono (by decide)) passN (pv 0) (zaa (pv 2) zaf)) zaf)))))))))) (zah (zbc (i:=2) sc_Starts_pick.nd rfl (by first|left;rfl|right;rfl) (pv 3))) zbb))) (zad (zcg (pv 0) (zar (dvs:=[]) M_Starts_stands (by simp) T.cl_Starts (hr.mono (by decide)) passN (pv 0) (zaa (pv 2) zaf)) rfl) (zah (zbd (pv 2)))))),?_⟩
  show tSeq _ _ _ [some (.ref a.p),some (.ref rl),none,none] H
  have shx:∀ x∈nm.map (·.1),shOf nm x≠none:=fun x h=>by
   obtain ⟨p,hp,rfl⟩:=List.mem_map.mp h
   exact zjt (s:=p.2) hp
  have zst:∀ x∈nm.map (·.1),Sw.SzQ 5000 (max (tf x) ck):=fun x h=>by
   rw [Rat.max_def]; split
   ·exact zc
   ·exact (ht x h).2
  have stands:∀ {x:Str} {H':Hp} {Q:VK} {E:XK},x∈nm.map (·.1)->Sx c_Starts c_Members H' a most nm tg gs ck ch N->(∀ q H'',Same H' H''->H'' q=some (.tup (fq (max (tf x) ck)))->Q (.ref q) H'')->rMeth c_Starts "stands" (.ref a.p) H' (zqa c_NoClass c_Starts c_Members [.ref a.p,.str x] H' Q E):=fun {x H' Q E} hx S k=>by
   obtain ⟨dx,fs,pr,hp,ft,hr'⟩:=S.ex
   exact zav hp (ft.no _ (by decide +kernel) (by decide +kernel) (by decide +kernel) (by decide +kernel) (by decide +kernel) (by decide +kernel)) ⟨a,most,nm,tg,gs,ck,ch,N,x,rfl,S,fun z=>absurd z (shx x hx),fun _=>⟨tf x,(ht x hx).1,(ht x hx).2,zc,fun q hq=>k q _ (zap hq) zac⟩⟩
  refine zae fun R hR=>?_
  walk_at "rd"
  refine hR _ _ ?_
  refine zae fun R hR=>?_
  refine zfg fun Z hZ=>?_
  walk_at "rd"
  obtain ⟨dx,fs,pr,hp,ft,hr'⟩:=S.ex
  refine zav hp (ft.no _ (by decide +kernel) (by decide +kernel) (by decide +kernel) (by decide +kernel) (by decide +kernel) (by decide +kernel)) ⟨a,most,nm,tg,gs,ck,ch,N,rfl,S,fun l hl=>?_⟩
  have sn:=zap (o:=.lst (nmV nm)) hl
  have hlt:upd H l (.lst (nmV nm)) l=some (.lst (nmV nm)):=zac
  refine ⟨l,rfl,⟨_,.of hlt⟩,hZ _ _ ?_⟩
  have S:=S.same sn
  have hrl:=sn _ _ hrl
  generalize upd H l (.lst (nmV nm))=H1 at sn hlt S hrl ⊢
  clear hp ft hr' hl
  refine zfc (K:=K) (a:=l) (xs:=nmV nm) (fun i σ H'=>Same H1 H'/\∃ v3,σ = [some (.ref a.p),some (.ref rl),some (optS (pickF (fun x=>decide (x∈rd)) (fun x=>max (tf x) ck) ((nm.map (·.1)).take i) none)),v3]) ⟨Same.refl _,none,rfl⟩ (fun i σ H' _ ⟨sm,_⟩=>.of (sm _ _ hlt)) ?_ ?_
  ·rintro i x σ H2 hx ⟨sm,v3,rfl⟩
   obtain ⟨y,hy,rfl⟩:∃ y,(nm.map (·.1))[i]? = some y/\V.str y=x:=by
    unfold nmV at hx
    rw [List.getElem?_map] at hx ⊢
    cases e:nm[i]? with
    | none=>rw [e] at hx; cases hx
    | some z=>rw [e] at hx; exact ⟨z.1,rfl,Option.some.inj hx⟩
   have hym:=List.mem_of_getElem? hy
   have S:=S.same sm
   have hrl:=sm _ _ hrl
   have et:(nm.map (·.1)).take (i+1)=(nm.map (·.1)).take i++[y]:=by rw [List.take_add_one,hy]; rfl
   have fm:∀ z,pickF (fun x=>decide (x∈rd)) (fun x=>max (tf x) ck) ((nm.map (·.1)).take i) none=some z->z∈nm.map (·.1):=fun z h=>by
    rcases zge h with ⟨h1,_⟩ | h1
    ·exact List.mem_of_mem_take h1
    ·cases h1
   have nxt:=zlj (rd:=fun x=>decide (x∈rd)) (st:=fun x=>max (tf x) ck) (x:=y) (l:=(nm.map (·.1)).take i) (f:=none)
   rw [<- et] at nxt
   generalize pickF (fun x=>decide (x∈rd)) (fun x=>max (tf x) ck) ((nm.map (·.1)).take i) none=fo at fm nxt ⊢
   show tIfS _ _ _ _ [some (.ref a.p),some (.ref rl),some (optS fo),some (.str y)] _
   refine zfl fun R hR=>?_
   have go:∀ v H',Same H2 H'->v=optS (pickF (fun x=>decide (x∈rd)) (fun x=>max (tf x) ck) ((nm.map (·.1)).take (i+1)) none)->R [some (.ref a.p),some (.ref rl),some v,some (.str y)] H':=fun v H' s e=>hR _ _ ⟨sm.trans s,some (.str y),by rw [e]⟩
   walk_at "rd"
   refine ⟨rl,_,rfl,.inl (.of hrl),rfl,zhr rd,_,rfl,?_⟩
   rw [show (if false=true then !inV (.str y) (rd.map V.str) else inV (.str y) (rd.map V.str))=decide (y∈rd) from zop y rd]
   by_cases hr:y∈rd
   ·rw [if_pos (decide_eq_true hr)]
    have e1:(fun x=>decide (x∈rd)) y=true:=decide_eq_true hr
    cases fo with
    | none =>
     rw [if_pos (show optS none=V.non from rfl)]
     refine go _ _ (Same.refl _) ?_
     rw [nxt,if_pos (by show ((fun x=>decide (x∈rd)) y && lessO _ y none)=true; rw [e1]; rfl)]
     rfl
    | some z =>
     rw [if_neg (by intro w; cases w)]
     have hzm:=fm z rfl
     refine stands hym S fun q1 H3 s3 h1=>?_
     refine stands hzm (S.same s3) fun q2 H4 s4 h2=>?_
     refine ⟨q1,q2,_,_,rfl,s4 _ _ h1,h2,zst y hym,zst z hzm,_,rfl,?_⟩
     have nx2:pickF (fun x=>decide (x∈rd)) (fun x=>max (tf x) ck) ((nm.map (·.1)).take (i+1)) none=if decide (max (tf y) ck<max (tf z) ck)=true then some y else some z:=by
      rw [nxt]
      have:((fun x=>decide (x∈rd)) y && lessO (fun x=>max (tf x) ck) y (some z))=decide (max (tf y) ck<max (tf z) ck):=by rw [e1]; rfl
      rw [this]
     by_cases hc:max (tf y) ck<max (tf z) ck
     ·rw [if_pos (decide_eq_true hc)]
      refine go _ _ (s3.trans s4) ?_
      rw [nx2,if_pos (decide_eq_true hc)]
      rfl
     ·rw [if_neg (by simp [hc])]
      refine go _ _ (s3.trans s4) ?_
      rw [nx2,if_neg (by simp [hc])]
   ·rw [if_neg (by simp [hr])]
    refine go _ _ (Same.refl _) ?_
    have e1:(fun x=>decide (x∈rd)) y=false:=decide_eq_false hr
    rw [nxt,if_neg (by rw [decide_eq_false hr]; simp)]
  ·rintro σ H2 ⟨sm,v3,rfl⟩
   refine hR _ _ ?_
   have hlen:(nmV nm).length=(nm.map (·.1)).length:=by unfold nmV; rw [List.length_map,List.length_map]
   rw [hlen,List.take_length]
   have hso:pickF (fun x=>decide (x∈rd)) (fun x=>max (tf x) ck) (nm.map (·.1)) none≠none:=zid (.inr (by obtain ⟨x,h1,h2⟩:=hex; exact ⟨x,h1,decide_eq_true h2⟩))
   cases e:pickF (fun x=>decide (x∈rd)) (fun x=>max (tf x) ck) (nm.map (·.1)) none with
   | none=>exact absurd e hso
   | some y =>
    have hym:y∈nm.map (·.1):=by
     rcases zge e with ⟨h1,_⟩ | h1
     ·exact h1
     ·cases h1
    have S:=S.same sm
    refine zae fun R hR=>?_
    unfold optS
    walk_at "rd"
    refine stands hym S fun q1 H3 s3 h1=>?_
    have S:=S.same s3
    obtain ⟨dx,fs,pr,hp,ft,hr'⟩:=S.ex
    refine zch hp T.cl_Starts T.na_Starts_reached (by have:=ft.len; omega) (hR _ _ ?_)
    walk_at "rd"
    exact k y _ e (((sn.trans sm).trans s3).own.trans own_p) (S.set_p hp ft.put_re h1)
def zzj (C Cm:Addr):Sp:=fun vs H Q _=>∃ a most nm tg gs ck N x s g len,vs = [.ref a.p,.int len]/\Sx C Cm H a most nm tg gs ck (.str x) N/\N<900/\shOf nm x=some s/\tg x≠none/\gs x=some g/\1<=s/\s<=1000000/\0<=len/\len<=1000000/\Sw.SzQ 2490 ck/\Sw.SzQ 5000 g /\
 ∀ H',Own a H H'->Sx C Cm H' a most nm (setS tg x (ck+(len:Rat) / (s:Rat))) (setS gs x (max g ((len:Rat) / (s:Rat)))) ck (.str x) (N+2)->Q .non H'
theorem znw (T:Txt K mg c_NoName c_Taken c_NoClass c_NoPlace c_NoShare c_NoLength c_TooEarly c_NoneReady c_Members c_Chooser c_Starts c_Rounds c_Node c_Tree):MethD P w K mg base (CXX P w) 5 c_Starts "pay" ["self", "length"] [[]] (zzj c_Starts c_Members):=by
 have M_Starts_charge:=zkh (P:=P) (w:=w) (base:=base) T
 refine T.me_Starts_pay.okN (k:=4) zmb (fun vs H Q E h=>?_) (fun f cdv A outer s H vs Q E hr h=>?_)
 ·obtain ⟨a,most,nm,tg,gs,ck,N,x,s,g,len,rfl,_⟩:=h
  rfl
 ·obtain ⟨a,most,nm,tg,gs,ck,N,x,s,g,len,rfl,S,hN,hx,ht,hg,s0,s1,n0,n1,zc,zg,k⟩:=h
  refine ⟨_,(zah (zay (zar (dvs:=[]) M_Starts_charge (by simp) T.cl_Starts (hr.mono (by decide)) passN (pv 0) (zaa (zaq (pv 0) rfl) (zaa (pv 1) zaf))))),?_⟩
  show (_:TS) _ [some (.ref a.p),some (.int len)] H
  obtain ⟨dx,fs,pr,hp,ft,hr'⟩:=S.ex
  walk_at "rd"
  refine zav hp (ft.no _ (by decide +kernel) (by decide +kernel) (by decide +kernel) (by decide +kernel) (by decide +kernel) (by decide +kernel)) ?_
  refine zaj hp T.cl_Starts T.na_Starts_chosen ft.ch ?_
  exact ⟨a,most,nm,tg,gs,ck,.str x,N,x,s,g,len,rfl,S,hN,hx,ht,hg,s0,s1,n0,n1,zc,zg,k⟩
def zus (cR cC C Cm:Addr):Sp:=fun vs H Q E=>∃ a most nm tg gs ck ch N rl rd,∃ tf:Str->Rat,vs = [.ref a.p,.ref rl]/\Sx C Cm H a most nm tg gs ck ch N/\H rl=some (.lst ((rd:List Str).map V.str))/\nm.length<=900/\(∀ x∈nm.map (·.1),tg x=some (tf x)/\Sw.SzQ 5000 (tf x))/\Sw.SzQ 5000 ck/\(rd = []->Rs cR H E)/\(rd≠[]->(∃ x∈rd,shOf nm x=none)->Rs cC H E) /\
 (rd≠[]->(∀ x∈rd,shOf nm x≠none)->∀ x H',pickF (fun x=>decide (x∈rd)) (fun x=>max (tf x) ck) (nm.map (·.1)) none=some x->Own a H H'->Sx C Cm H' a most nm tg gs (max (tf x) ck) (.str x) N->Q (.str x) H')
theorem zki (T:Txt K mg c_NoName c_Taken c_NoClass c_NoPlace c_NoShare c_NoLength c_TooEarly c_NoneReady c_Members c_Chooser c_Starts c_Rounds c_Node c_Tree):MethD P w K mg base (CXX P w) 5 c_Starts "choose" ["self", "ready"] [[]] (zus c_NoneReady c_NoClass c_Starts c_Members):=by
 have M_Members_check_name:=zdb (P:=P) (w:=w) (base:=base) T
 have M_Starts_pick:=zme (P:=P) (w:=w) (base:=base) T
 refine T.me_Starts_choose.okX (k:=4) sc_Starts_choose (fun vs H Q E h=>?_) (fun f cdv A outer s H vs Q E hr h=>?_)
 ·obtain ⟨a,most,nm,tg,gs,ck,ch,N,rl,rd,tf,rfl,_⟩:=h
  rfl
 ·obtain ⟨a,most,nm,tg,gs,ck,ch,N,rl,rd,tf,rfl,S,hrl,hn,ht,zc,kr,kc,k⟩:=h
  refine ⟨_,(zad (ps_if (zir (zjs K rfl (pv 1))) (zah (zcs K rfl rfl zek (zel T.ex_NoneReady T.kp_NoneReady rfl T.mg_NoneReady (zaa zbz zaf)))) zbb) (zad (zis PassesOwn.leaving rfl (zcr K rfl (pv 1)) (zbm (i:=2) sc_Starts_choose.nd rfl (by first|left;rfl|right;rfl)) (zah (zay (zar (dvs:=[]) M_Members_check_name (by simp) T.cl_Members (hr.mono (by decide)) passF (zaq (pv 0) rfl) (zaa (pv 2) zaf))))) (zad (zcg (pv 0) (zar (dvs:=[]) M_Starts_pick (by simp) T.cl_Starts (hr.mono (by decide)) passF (pv 0) (zaa (pv 1) zaf)) rfl) (zah (zbd (zaq (pv 0) rfl)))))),?_⟩
  show tSeq _ _ _ [some (.ref a.p),some (.ref rl),none] H
  refine zae fun R hR=>?_
  walk_at "rd"
  by_cases hne:rd = []
  ·refine ⟨false,.inl ⟨_,.of hrl,by rw [hne]; rfl⟩,?_⟩
   rw [if_pos rfl]
   exact rs_of (kr hne) T.xc_NoneReady
  refine ⟨true,.inl ⟨_,.of hrl,by cases rd with | nil=>exact absurd rfl hne | cons y r=>rfl⟩,?_⟩
  rw [if_neg (by decide)]
  refine hR _ _ ?_
  refine zae fun R hR=>?_
  refine zfg fun Z hZ=>?_
  walk_at "rd"
  refine ⟨⟨_,.of hrl⟩,hZ _ _ ?_⟩
  obtain ⟨dx,fs,pr,hp,ft,hr'⟩:=S.ex
  obtain ⟨dm,fm,hpm,hfm,hno,hlen⟩:=S.mb.ex
  refine zfc (K:=K) (a:=rl) (xs:=rd.map V.str) (fun i σ H'=>H'=H/\(∃ v2,σ = [some (.ref a.p),some (.ref rl),v2])/\∀ y∈rd.take i,shOf nm y≠none) ⟨rfl,⟨none,rfl⟩,fun y h=>absurd h (by simp)⟩ (fun i σ H' _ ⟨e,_⟩=>by rw [e]; exact .of hrl) ?_ ?_
  ·rintro i x σ H2 hx ⟨rfl,⟨v2,rfl⟩,al⟩
   obtain ⟨y,hy,rfl⟩:∃ y,rd[i]? = some y/\V.str y=x:=by simpa using hx
   show (_:TS) _ [some (.ref a.p),some (.ref rl),some (.str y)] _
   refine zfl fun R hR=>?_
   walk_at "rd"
   refine zaj hp T.cl_Starts T.na_Starts_members ft.me ?_
   refine zav hpm (hno _ (by decide +kernel)) ⟨a.pm,a.ps,nm,y,rfl,S.mb,fun hy'=>hR _ _ ⟨rfl,⟨_,rfl⟩,fun z hz=>?_⟩,fun z=>kc hne ⟨y,List.mem_of_getElem? hy,z⟩⟩
   rw [ziu hy] at hz
   rcases List.mem_append.mp hz with v | v
   ·exact al z v
   ·rw [List.mem_singleton.mp v]; exact hy'
  ·rintro σ H2 ⟨rfl,⟨v2,rfl⟩,al⟩
   rw [List.length_map,List.take_length] at al
   have hin:=al
   refine hR _ _ ?_
   refine zae fun R hR=>?_
   walk_at "rd"
   have hex:∃ x∈nm.map (·.1),x∈rd:=by
    cases rd with
    | nil=>exact absurd rfl hne
    | cons y r =>
     have hy:=hin y (by simp)
     cases e:shOf nm y with
     | none=>exact absurd e hy
     | some v=>exact ⟨y,List.mem_map.mpr ⟨_,zpo e,rfl⟩,by simp⟩
   refine zav hp (ft.no _ (by decide +kernel) (by decide +kernel) (by decide +kernel) (by decide +kernel) (by decide +kernel) (by decide +kernel)) ⟨a,most,nm,tg,gs,ck,ch,N,rl,rd,tf,rfl,S,hrl,hn,ht,zc,hex,fun x H3 e ow S3=>?_⟩
   obtain ⟨dx,fs,pr,hp,ft,hr'⟩:=S3.ex
   refine zch hp T.cl_Starts T.na_Starts_chosen (by have:=ft.len; omega) (hR _ _ ?_)
   have S4:=S3.set_p hp (ft.put_ch (ch':=.str x)) hr'
   walk_at "rd"
   refine zaj zac T.cl_Starts T.na_Starts_chosen zbf ?_
   exact k hne hin x _ e (ow.trans own_p) S4
def spUpR (C Cm:Addr):Sp:=fun vs H Q _=>∃ x dx most,vs = [.ref x,.int most]/\H x=some (.ins C dx [])/\∀ pm psh H',But x H H'->H pm=none->H psh=none->pm≠x->H' x=some (.ins C dx (putF "chosen" .non (putF "members" (.ref pm) (putF "most" (.int most) []))))->Mb Cm H' pm psh []->Q .non H'
theorem zgw (T:Txt K mg c_NoName c_Taken c_NoClass c_NoPlace c_NoShare c_NoLength c_TooEarly c_NoneReady c_Members c_Chooser c_Starts c_Rounds c_Node c_Tree):UpD P w K mg base (CXX P w) 3 c_Chooser "__init__" ["self", "most"] (spUpR c_Rounds c_Members):=by
 have K_Members:=znu (P:=P) (w:=w) (base:=base) T
 refine T.up_Rounds_up_Chooser.okN (k:=2) zgj (fun vs H Q E h=>?_) (fun f cdv A outer s H vs Q E hr h=>?_)
 ·obtain ⟨x,dx,most,rfl,_⟩:=h
  rfl
 ·obtain ⟨x,dx,most,rfl,hx,k⟩:=h
  refine ⟨_,(zad (zcg (pv 0) (pv 1) rfl) (zad (zcg (pv 0) (znc (dvs:=[]) K_Members (by simp) (hr.mono (by decide)) passN rfl T.mg_Members) rfl) (zah (zcg (pv 0) zdn rfl)))),?_⟩
  show tSeq _ _ _ [some (.ref x),some (.int most)] H
  have l1:=zao (fs:=[]) (f := "most") (v:=.int most)
  simp only [List.length_nil] at l1
  refine zae fun R hR=>?_
  walk_at "rd"
  refine zch hx T.cl_Rounds T.na_Rounds_most (by simp) (hR _ _ ?_)
  refine zae fun R hR=>?_
  walk_at "rd"
  intro pm dm hpm hdm _
  have nx:pm≠x:=fun z=>by rw [z,zac] at hpm; cases hpm
  have npm:H pm=none:=by rw [zai nx] at hpm; exact hpm
  refine ⟨pm,dm,rfl,zac,fun psh H1 bt hpsh M=>⟨rfl,?_⟩⟩
  have s1:=bt.same (zdp hpm hdm) hpm
  have hx1:=s1 _ _ zac
  have l2:=zao (fs:=putF "most" (.int most) []) (f := "members") (v:=.ref pm)
  have fpsh:upd H x (.ins c_Rounds dx (putF "most" (.int most) [])) psh=none:=(zdp hpm hdm).free hpsh
  have npx:psh≠x:=fun z=>by rw [z,zac] at fpsh; cases fpsh
  have npsh:H psh=none:=by rw [zai npx] at fpsh; exact fpsh
  refine zch hx1 T.cl_Rounds T.na_Rounds_members (by omega) (hR _ _ ?_)
  walk_at "rd"
  refine zch zac T.cl_Rounds T.na_Rounds_chosen (by omega) ?_
  rw [zex]
  refine k pm psh _ (fun b o n e=>?_) npm npsh nx zac ?_
  ·rw [zai n]
   exact s1 _ _ (by rw [zai n]; exact e)
  ·obtain ⟨d2,f2,g1,g2⟩:=M.ex
   exact ⟨⟨d2,f2,by rw [zai nx]; exact g1,g2⟩,by rw [zai npx]; exact M.hs⟩
def zxn (C Cm:Addr):Sp:=fun vs H Q _=>∃ x dx most,vs = [.ref x,.int most]/\H x=some (.ins C dx [])/\∀ (a:At5) H',a.p=x->But x H H'->H a.pm=none->H a.ps=none->H a.pt=none->H a.pg=none->Rx C Cm H' a most [] [] [] none .non->Q .non H'
theorem zut (T:Txt K mg c_NoName c_Taken c_NoClass c_NoPlace c_NoShare c_NoLength c_TooEarly c_NoneReady c_Members c_Chooser c_Starts c_Rounds c_Node c_Tree):MkD P w K mg base (CXX P w) 4 c_Rounds ["self", "most"] [[]] (zxn c_Rounds c_Members):=by
 have U_Rounds_up_Chooser:=zgw (P:=P) (w:=w) (base:=base) T
 refine T.in_Rounds.okN (k:=3) zkt (fun vs H Q E h=>?_) (fun f cdv A outer s H vs Q E hr h=>?_)
 ·obtain ⟨x,dx,most,rfl,_⟩:=h
  rfl
 ·obtain ⟨x,dx,most,rfl,hx,k⟩:=h
  refine ⟨_,(zad (zay (zsg U_Rounds_up_Chooser (hr.mono (by decide)) passN rfl T.mg_Chooser (zaa (pv 0) (zaa (pv 1) zaf)))) (zad (zcg (pv 0) (zgl zaf) rfl) (zad (zcg (pv 0) zhe rfl) (zah (zcg (pv 0) zdn rfl))))),?_⟩
  show tSeq _ _ _ [some (.ref x),some (.int most)] H
  refine zae fun R hR=>?_
  walk_at "rdc"
  refine ⟨x,dx,most,rfl,hx,fun pm psh H1 bt npm npsh nx hx1 M=>hR _ _ ?_⟩
  have l1:=zao (fs:=[]) (f := "most") (v:=.int most)
  have l2:=zao (fs:=putF "most" (.int most) []) (f := "members") (v:=.ref pm)
  have l3:=zao (fs:=putF "members" (.ref pm) (putF "most" (.int most) [])) (f := "chosen") (v:=.non)
  simp only [List.length_nil] at l1
  have npx:psh≠x:=fun z=>by rw [z,hx] at npsh; cases npsh
  have free:∀ {H':Hp} {b:Addr},But x H H'->b≠x->H' b=none->H b=none:=fun {H' b} bt n e=>by
   cases q:H b with
   | none=>rfl
   | some o =>
    have:=bt _ _ n q
    rw [e] at this
    cases this
  have keepx:∀ {H':Hp} {fs:List (Str×V)} {b:Addr} {o:HO},b≠x->H' b=some o->upd H' x (.ins c_Rounds dx fs) b=some o:=fun n e=>by rw [zai n]; exact e
  generalize hfs0:putF "chosen" .non (putF "members" (.ref pm) (putF "most" (.int most) []))=fs0 at hx1 l3
  refine zae fun R hR=>?_
  walk_at "rd"
  intro pt hpt
  have ntx:pt≠x:=fun z=>by rw [z,hx1] at hpt; cases hpt
  have s3:=zap (o:=.lst []) hpt
  have hptd:upd H1 pt (.lst []) pt=some (.lst []):=zac
  refine zch (s3 _ _ hx1) T.cl_Rounds T.na_Rounds_queue (by omega) (hR _ _ ?_)
  have npt:=free bt ntx hpt
  have l4:=zao (fs:=fs0) (f := "queue") (v:=.ref pt)
  have bt:But x H (upd (upd H1 pt (.lst [])) x (.ins c_Rounds dx (putF "queue" (.ref pt) fs0))):=(bt.trans s3.but).trans zib
  have hptd:=keepx (fs:=putF "queue" (.ref pt) fs0) ntx hptd
  have M:Mb c_Members (upd (upd H1 pt (.lst [])) x (.ins c_Rounds dx (putF "queue" (.ref pt) fs0))) pm psh []:=by
   obtain ⟨d2,f2,g1,g2⟩:=(M.same s3).ex
   exact ⟨⟨d2,f2,keepx nx g1,g2⟩,keepx npx (s3 _ _ M.hs)⟩
  have hx4:upd (upd H1 pt (.lst [])) x (.ins c_Rounds dx (putF "queue" (.ref pt) fs0)) x=some (.ins c_Rounds dx (putF "queue" (.ref pt) fs0)):=zac
  generalize upd (upd H1 pt (.lst [])) x (.ins c_Rounds dx (putF "queue" (.ref pt) fs0))=H4 at bt hptd M hx4 ⊢
  clear s3 hpt hx1
  refine zae fun R hR=>?_
  walk_at "rd"
  intro pg hpg
  have ngx:pg≠x:=fun z=>by rw [z,hx4] at hpg; cases hpg
  have s5:=zap (o:=.dK []) hpg
  have ngs:=zan M.hs hpg
  refine zch (s5 _ _ hx4) T.cl_Rounds T.na_Rounds_rests (by omega) (hR _ _ ?_)
  have npg:=free bt ngx hpg
  have l5:=zao (fs:=putF "queue" (.ref pt) fs0) (f := "rests") (v:=.ref pg)
  walk_at "rd"
  refine zch zac T.cl_Rounds T.na_Rounds_turn (by omega) ?_
  rw [zex]
  refine k ⟨x,pm,psh,pt,pg⟩ _ rfl ((bt.trans s5.but).trans zib) npm npsh npt npg ⟨⟨dx,_,zac,?_⟩,?_,keepx ntx (s5 _ _ hptd),keepx ngx zac,ngs.symm,nx.symm⟩
  ·rw [<- hfs0]
   exact FR.mk0 _ _ _ _ _
  ·obtain ⟨d2,f2,g1,g2⟩:=(M.same s5).ex
   exact ⟨⟨d2,f2,keepx nx g1,g2⟩,keepx npx (s5 _ _ M.hs)⟩
def zuu (C Cm:Addr):Sp:=fun vs H Q _=>∃ a most nm q rs tu ch x,vs = [.ref a.p,.str x]/\Rx C Cm H a most nm q rs tu ch/\q.length<900/\rs.length<900/\shOf rs x=none/\∀ H',Own a H H'->Rx C Cm H' a most nm (q++[x]) (rs++[(x,0)]) tu ch->Q .non H'
theorem zky (T:Txt K mg c_NoName c_Taken c_NoClass c_NoPlace c_NoShare c_NoLength c_TooEarly c_NoneReady c_Members c_Chooser c_Starts c_Rounds c_Node c_Tree):MethD P w K mg base (CXX P w) 1 c_Rounds "enter" ["self", "name"] [[]] (zuu c_Rounds c_Members):=by
 refine T.me_Rounds_enter.okN (k:=0) zke (fun vs H Q E h=>?_) (fun f cdv A outer s H vs Q E hr h=>?_)
 ·obtain ⟨a,most,nm,q,rs,tu,ch,x,rfl,_⟩:=h
  rfl
 ·obtain ⟨a,most,nm,q,rs,tu,ch,x,rfl,S,lq,lr,hx,k⟩:=h
  refine ⟨_,(zad (zay (pe_bm PySem.F.plainAttrs_list PySem.F.slot_list_append PySem.F.type_list_append zdo (zaq (pv 0) rfl) (zaa (pv 1) zaf))) (zah (zez (hu_of hr) (zaq (pv 0) rfl) (pv 1) zam rfl))),?_⟩
  show tSeq _ _ _ [some (.ref a.p),some (.str x)] H
  obtain ⟨dx,fs,hp,ft⟩:=S.ex
  refine zae fun R hR=>?_
  walk_at "rd"
  refine zaj hp T.cl_Rounds T.na_Rounds_queue ft.qu ?_
  refine ⟨zfx S.hq,zhc S.hq (by rw [List.length_map]; omega) (hR _ _ ?_)⟩
  have e:q.map V.str++[V.str x] = (q++[x]).map V.str:=by rw [List.map_append]; rfl
  rw [e]
  have S:=S.set_q (q':=q++[x])
  have ow:Own a H (upd H a.pt (.lst ((q++[x]).map V.str))):=own_t
  generalize upd H a.pt (.lst ((q++[x]).map V.str))=H1 at S ow ⊢
  obtain ⟨dx,fs,hp,ft⟩:=S.ex
  walk_at "rd"
  refine zaj hp T.cl_Rounds T.na_Rounds_rests ft.re ?_
  walk_at "rd"
  refine ⟨_,DPut.k (k:=Sum.inr x) S.hr (line_lt (by rw [zgd]; omega)),?_⟩
  rw [zpn hx]
  exact k _ (ow.trans own_g) S.set_r
def zuv (cC C Cm:Addr):Sp:=fun vs H Q E=>∃ a most nm q rs tu ch x,vs = [.ref a.p,.str x]/\Rx C Cm H a most nm q rs tu ch/\(shOf nm x=none->Rs cC H E)/\∀ s,shOf nm x=some s->Q (.int s) H
theorem zik (T:Txt K mg c_NoName c_Taken c_NoClass c_NoPlace c_NoShare c_NoLength c_TooEarly c_NoneReady c_Members c_Chooser c_Starts c_Rounds c_Node c_Tree):MethD P w K mg base (CXX P w) 3 c_Rounds "share_of" ["self", "name"] [[]] (zuv c_NoClass c_Rounds c_Members):=by
 have M_Members_share_of:=zfi (P:=P) (w:=w) (base:=base) T
 refine T.me_Rounds_share_of.okX (k:=2) zho (fun vs H Q E h=>?_) (fun f cdv A outer s H vs Q E hr h=>?_)
 ·obtain ⟨a,most,nm,q,rs,tu,ch,x,rfl,_⟩:=h
  rfl
 ·obtain ⟨a,most,nm,q,rs,tu,ch,x,rfl,S,kx,k⟩:=h
  refine ⟨_,(zah (zbd (zar (dvs:=[]) M_Members_share_of (by simp) T.cl_Members (hr.mono (by decide)) passF (zaq (pv 0) rfl) (zaa (pv 1) zaf)))),?_⟩
  show tRet _ _ [some (.ref a.p),some (.str x)] H
  obtain ⟨dx,fs,hp,ft⟩:=S.ex
  obtain ⟨dm,fm,hpm,hfm,hno,hlen⟩:=S.mb.ex
  walk_at "rd"
  refine zaj hp T.cl_Rounds T.na_Rounds_members ft.me ?_
  exact zav hpm (hno _ (by decide +kernel)) ⟨a.pm,a.ps,nm,x,rfl,S.mb,kx,k⟩
def zxo (C Cm:Addr):Sp:=fun vs H Q _=>∃ a most nm q rs tu ch x s,vs = [.ref a.p,.str x]/\Rx C Cm H a most nm q rs tu ch/\shOf nm x=some s/\1<=s/\s<=1000000/\1<=most/\most<=1000000/\Q (.int (s*most)) H
theorem zhs (T:Txt K mg c_NoName c_Taken c_NoClass c_NoPlace c_NoShare c_NoLength c_TooEarly c_NoneReady c_Members c_Chooser c_Starts c_Rounds c_Node c_Tree):MethD P w K mg base (CXX P w) 4 c_Rounds "full_rest" ["self", "name"] [[]] (zxo c_Rounds c_Members):=by
 have M_Rounds_share_of:=zik (P:=P) (w:=w) (base:=base) T
 refine T.me_Rounds_full_rest.okN (k:=3) zgr (fun vs H Q E h=>?_) (fun f cdv A outer s H vs Q E hr h=>?_)
 ·obtain ⟨a,most,nm,q,rs,tu,ch,x,s,rfl,_⟩:=h
  rfl
 ·obtain ⟨a,most,nm,q,rs,tu,ch,x,s,rfl,S,hx,s0,s1,m0,m1,k⟩:=h
  refine ⟨_,(zah (zbd (pe_op zct (zar (dvs:=[]) M_Rounds_share_of (by simp) T.cl_Rounds (hr.mono (by decide)) passN (pv 0) (zaa (pv 1) zaf)) (zaq (pv 0) rfl)))),?_⟩
  show tRet _ _ [some (.ref a.p),some (.str x)] H
  obtain ⟨dx,fs,hp,ft⟩:=S.ex
  walk_at "rd"
  refine S.meth (by decide +kernel) ⟨a,most,nm,q,rs,tu,ch,x,rfl,S,fun z=>(by rw [hx] at z; cases z),fun s' hs'=>?_⟩
  rw [hx] at hs'
  cases hs'
  refine zaj hp T.cl_Rounds T.na_Rounds_most ft.mo ?_
  have zs:Sw.Sz 70 s:=Sw.Sz.r18 (by omega) (by omega)
  have zm:Sw.Sz 70 most:=Sw.Sz.r18 (by omega) (by omega)
  exact ⟨_,rfl,_,rfl,⟨zs.mono (by decide),zm.mono (by decide)⟩,k⟩
def zzk (cT cS C Cm:Addr):Sp:=fun vs H Q E=>∃ a most nm q rs tu ch x s,vs = [.ref a.p,.str x,.int s]/\Rx C Cm H a most nm q rs tu ch/\Sw.RI most nm q rs tu/\nm.length<90/\(shOf nm x≠none->Rs cT H E)/\(shOf nm x=none->¬ (1<=s/\s<=1000000)->Rs cS H E)/\(shOf nm x=none->1<=s/\s<=1000000->∀ H',Own a H H'->Rx C Cm H' a most (nm++[(x,s)]) (q++[x]) (rs++[(x,0)]) tu ch->Q .non H')
theorem znx (T:Txt K mg c_NoName c_Taken c_NoClass c_NoPlace c_NoShare c_NoLength c_TooEarly c_NoneReady c_Members c_Chooser c_Starts c_Rounds c_Node c_Tree):MethD P w K mg base (CXX P w) 3 c_Rounds "put" ["self", "name", "share"] [[]] (zzk c_Taken c_NoShare c_Rounds c_Members):=by
 have M_Members_put:=zhq (P:=P) (w:=w) (base:=base) T
 have M_Rounds_enter:=zky (P:=P) (w:=w) (base:=base) T
 refine T.me_Rounds_put.okX (k:=2) zmc (fun vs H Q E h=>?_) (fun f cdv A outer s H vs Q E hr h=>?_)
 ·obtain ⟨a,most,nm,q,rs,tu,ch,x,s,rfl,_⟩:=h
  rfl
 ·obtain ⟨a,most,nm,q,rs,tu,ch,x,s,rfl,S,h,nl,kt,ks,k⟩:=h
  refine ⟨_,(zad (zay (zar (dvs:=[]) M_Members_put (by simp) T.cl_Members (hr.mono (by decide)) passF (zaq (pv 0) rfl) (zaa (pv 1) (zaa (pv 2) zaf)))) (zah (zay (zar (dvs:=[]) M_Rounds_enter (by simp) T.cl_Rounds (hr.mono (by decide)) passF (pv 0) (zaa (pv 1) zaf))))),?_⟩
  show tSeq _ _ _ [some (.ref a.p),some (.str x),some (.int s)] H
  obtain ⟨dx,fs,hp,ft⟩:=S.ex
  obtain ⟨dm,fm,hpm,hfm,hno,hlen⟩:=S.mb.ex
  obtain ⟨l1,l2⟩:=zpu h
  refine zae fun R hR=>?_
  walk_at "rd"
  refine zaj hp T.cl_Rounds T.na_Rounds_members ft.me ?_
  refine zav hpm (hno _ (by decide +kernel)) ⟨a.pm,a.ps,nm,x,s,rfl,S.mb,by omega,kt,ks,fun hx hs=>hR _ _ ?_⟩
  have S:=S.set_s (nm':=nm++[(x,s)])
  have ow:Own a H (upd H a.ps (.dK (kvsOf (nm++[(x,s)])))):=own_s
  generalize upd H a.ps (.dK (kvsOf (nm++[(x,s)])))=H1 at S ow ⊢
  walk_at "rd"
  exact S.meth (by decide +kernel) ⟨a,most,_,q,rs,tu,ch,x,rfl,S,by omega,by omega,(by rw [Sw.sh_none,h.ks,<- Sw.sh_none]; exact hx),fun H' o' S'=>k hx hs H' (ow.trans o') S'⟩
def zuw (C Cm:Addr):Sp:=fun vs H Q _=>∃ a most nm q rs tu ch,vs = [.ref a.p]/\Rx C Cm H a most nm q rs tu ch/\∀ l,H l=none->Q (.ref l) (upd H l (.lst (nmV nm)))
theorem zkz (T:Txt K mg c_NoName c_Taken c_NoClass c_NoPlace c_NoShare c_NoLength c_TooEarly c_NoneReady c_Members c_Chooser c_Starts c_Rounds c_Node c_Tree):MethD P w K mg base (CXX P w) 2 c_Rounds "names" ["self"] [[]] (zuw c_Rounds c_Members):=by
 have M_Members_names:=zgg (P:=P) (w:=w) (base:=base) T
 refine T.me_Rounds_names.okN (k:=1) zkf (fun vs H Q E h=>?_) (fun f cdv A outer s H vs Q E hr h=>?_)
 ·obtain ⟨a,most,nm,q,rs,tu,ch,rfl,_⟩:=h
  rfl
 ·obtain ⟨a,most,nm,q,rs,tu,ch,rfl,S,k⟩:=h
  refine ⟨_,(zah (zbd (zci (dvs:=[]) M_Members_names (by simp) T.cl_Members (hr.mono (by decide)) passN (zaq (pv 0) rfl)))),?_⟩
  show tRet _ _ [some (.ref a.p)] H
  obtain ⟨dx,fs,hp,ft⟩:=S.ex
  obtain ⟨dm,fm,hpm,hfm,hno,hlen⟩:=S.mb.ex
  walk_at "rd"
  refine zaj hp T.cl_Rounds T.na_Rounds_members ft.me ?_
  exact zav hpm (hno _ (by decide +kernel)) ⟨a.pm,a.ps,nm,rfl,S.mb,k⟩
def zzl (C Cm:Addr):Sp:=fun vs H Q _=>∃ a most nm q rs tu ch,vs = [.ref a.p]/\Rx C Cm H a most nm q rs tu ch/\q.length<900/\rs.length<900/\(∀ t,tu=some t->shOf rs t≠none)/\∀ H',Own a H H'->Rx C Cm H' a most nm (endQ q tu) (endR rs tu) none ch->Q .non H'
theorem zil (T:Txt K mg c_NoName c_Taken c_NoClass c_NoPlace c_NoShare c_NoLength c_TooEarly c_NoneReady c_Members c_Chooser c_Starts c_Rounds c_Node c_Tree):MethD P w K mg base (CXX P w) 1 c_Rounds "end_turn" ["self"] [[]] (zzl c_Rounds c_Members):=by
 refine T.me_Rounds_end_turn.okN (k:=0) zhn (fun vs H Q E h=>?_) (fun f cdv A outer s H vs Q E hr h=>?_)
 ·obtain ⟨a,most,nm,q,rs,tu,ch,rfl,_⟩:=h
  rfl
 ·obtain ⟨a,most,nm,q,rs,tu,ch,rfl,S,lq,lr,ht,k⟩:=h
  refine ⟨_,(zah (ps_if (zba zfq (zaq (pv 0) rfl) zdn (zbk _)) (zad (zez (hu_of hr) (zaq (pv 0) rfl) (zaq (pv 0) rfl) (zcq (zjk rfl) rfl T.no_min boot_min (zaa (zdd (hu_of hr) (zaq (pv 0) rfl) (zaq (pv 0) rfl) (fun _ _=>rfl)) (zaa zam zaf))) rfl) (zad (zay (pe_bm PySem.F.plainAttrs_list PySem.F.slot_list_append PySem.F.type_list_append zdo (zaq (pv 0) rfl) (zaa (zaq (pv 0) rfl) zaf))) (zah (zcg (pv 0) zdn rfl)))) zbb)),?_⟩
  show (_:TS) _ [some (.ref a.p)] H
  obtain ⟨dx,fs,hp,ft⟩:=S.ex
  walk_at "rd"
  refine zaj hp T.cl_Rounds T.na_Rounds_turn ft.tu ?_
  cases tu with
  | none =>
   unfold optS
   walk_at "rd"
   exact k _ (fun _ _ _ _ _ _ e=>e) S
  | some t =>
   cases e:shOf rs t with
   | none=>exact absurd e (ht t rfl)
   | some r =>
    unfold endQ endR zfb at k
    simp only [e,Option.getD_some] at k
    unfold optS
    walk_at "rd"
    rw [if_neg (by intro z; cases z)]
    have hg:=DGet.k (k:=Sum.inr t) S.hr
    rw [zfu,e] at hg
    refine zae fun R hR=>?_
    walk_at "rd"
    refine zaj hp T.cl_Rounds T.na_Rounds_rests ft.re ?_
    refine zaj hp T.cl_Rounds T.na_Rounds_turn ft.tu ?_
    walk_at "rd"
    refine ⟨.int r,hg,?_⟩
    walk_at "rd"
    refine zaj hp T.cl_Rounds T.na_Rounds_rests ft.re ?_
    refine zaj hp T.cl_Rounds T.na_Rounds_turn ft.tu ?_
    walk_at "rd"
    refine ⟨_,DPut.k (k:=Sum.inr t) S.hr (line_lt (by rw [zgd]; omega)),hR _ _ ?_⟩
    rw [zlv (by rw [e]; simp)]
    clear hR
    have S:=S.set_r (rs':=putN rs t (if 0<r then 0 else r))
    have ow:Own a H (upd H a.pg (.dK (kvsOf (putN rs t (if 0<r then 0 else r))))):=own_g
    generalize upd H a.pg (.dK (kvsOf (putN rs t (if 0<r then 0 else r))))=H1 at S ow ⊢
    obtain ⟨dx,fs,hp,ft⟩:=S.ex
    refine zae fun R hR=>?_
    walk_at "rd"
    refine zaj hp T.cl_Rounds T.na_Rounds_queue ft.qu ?_
    refine ⟨zfx S.hq,?_⟩
    refine zaj hp T.cl_Rounds T.na_Rounds_turn ft.tu ?_
    refine zhc S.hq (by rw [List.length_map]; omega) (hR _ _ ?_)
    clear hR
    have em:q.map V.str++[V.str t] = (q++[t]).map V.str:=by rw [List.map_append]; rfl
    unfold optS
    rw [em]
    have S:=S.set_q (q':=q++[t])
    have ow:=ow.trans (own_t (a:=a) (H:=H1) (o:=.lst ((q++[t]).map V.str)))
    generalize upd H1 a.pt (.lst ((q++[t]).map V.str))=H2 at S ow ⊢
    obtain ⟨dx,fs,hp,ft⟩:=S.ex
    walk_at "rd"
    refine zch hp T.cl_Rounds T.na_Rounds_turn (by have:=ft.len; omega) ?_
    exact k _ (ow.trans own_p) (S.set_p hp (ft.put_tu none))
def rdV (rd:List Str):V->Option V
 | .str x=>if x∈rd then some (.str x) else none
 | _=>none
theorem zxp (rd:List Str) (l:List Str):(l.map V.str).filterMap (rdV rd)=(l.filter fun x=>decide (x∈rd)).map V.str:=by
 induction l with
 | nil=>rfl
 | cons x r ih =>
  rw [List.map_cons,List.filterMap_cons,List.filter_cons]
  unfold rdV at ih ⊢
  by_cases h:x∈rd
  ·simp only [h,if_true,decide_true,List.map_cons]; rw [ih]
  ·simp only [h,if_false,decide_false]; rw [ih]; rfl
theorem zxq (rd:List Str):inV .non (rd.map V.str)=false:=by
 unfold inV
 rw [List.any_map]
 rw [List.any_eq_false]
 intro x _
 show ¬ eqV (.str x) .non=true
 simp [eqV]
def zzm (C Cm:Addr):Sp:=fun vs H Q _=>∃ a most nm q rs tu ch rl,∃ rd:List Str,∃ x s r,vs = [.ref a.p,.ref rl]/\Rx C Cm H a most nm q rs tu ch/\H rl=some (.lst (rd.map V.str))/\rl≠a.pt/\q.find? (fun x=>decide (x∈rd))=some x/\q.Nodup/\q.length<=100/\(∀ y∈q,PyData.strOk y=true)/\rs.length<900/\shOf nm x=some s/\shOf rs x=some r/\1<=s/\s<=1000000/\1<=most/\most<=1000000 /\
 ∀ H',Own a H H'->Rx C Cm H' a most nm (q.erase x) (putN rs x (r+s*most)) (some x) ch->Q (.str x) H'
theorem zgx (T:Txt K mg c_NoName c_Taken c_NoClass c_NoPlace c_NoShare c_NoLength c_TooEarly c_NoneReady c_Members c_Chooser c_Starts c_Rounds c_Node c_Tree):MethD P w K mg base (CXX P w) 5 c_Rounds "begin_turn" ["self", "ready"] [[]] (zzm c_Rounds c_Members):=by
 have M_Rounds_full_rest:=zhs (P:=P) (w:=w) (base:=base) T
 refine T.me_Rounds_begin_turn.okN (k:=4) sc_Rounds_begin_turn (fun vs H Q E h=>?_) (fun f cdv A outer s H vs Q E hr h=>?_)
 ·obtain ⟨a,most,nm,q,rs,tu,ch,rl,rd,x,s,r,rfl,_⟩:=h
  rfl
 ·obtain ⟨a,most,nm,q,rs,tu,ch,rl,rd,x,s,r,rfl,S,hrl,nrl,hf,nd,lq,ok,lr,hx,hr',s0,s1,m0,m1,k⟩:=h
  refine ⟨_,(zad (zbc (i:=2) sc_Rounds_begin_turn.nd rfl (by first|left;rfl|right;rfl) (pe_ix (zfe K rfl) (pe_lc ["one"] [("ready", 1)] rfl (by with_unfolding_all rfl) (by decide +kernel) rfl (by decide +kernel) (by exact ⟨rfl,True.intro⟩) (by with_unfolding_all rfl) ⟨⟨rfl,rfl,rfl⟩,True.intro⟩ (zcr K rfl (zaq (pv 0) rfl)) (fun _ _ _=>(zbm (i:=0) (show (["one", "ready"]:List Str).Nodup from by decide +kernel) rfl (by first|left;rfl|right;rfl))) (fun _ _ _=>(zha (zba (zsh K rfl) (pv 0) (pv 1) rfl))) (fun _ _ _=>(pv 0))) zam (fun _ _=>rfl))) (zad (zay (pe_bm PySem.F.plainAttrs_list PySem.F.slot_list_remove PySem.F.type_list_remove (zsj K rfl hr.units66) (zaq (pv 0) rfl) (zaa (pv 2) zaf))) (zad (zcg (pv 0) (pv 2) rfl) (zad (zez (hu_of hr) (zaq (pv 0) rfl) (pv 2) (pe_op zfd (zdd (hu_of hr) (zaq (pv 0) rfl) (pv 2) (fun _ _=>rfl)) (zar (dvs:=[]) M_Rounds_full_rest (by simp) T.cl_Rounds (hr.mono (by decide)) passN (pv 0) (zaa (pv 2) zaf))) rfl) (zah (zbd (pv 2))))))),?_⟩
  show tSeq _ _ _ [some (.ref a.p),some (.ref rl),none] H
  obtain ⟨dx,fs,hp,ft⟩:=S.ex
  have xq:x∈q:=List.mem_of_find?_eq_some hf
  refine zae fun R hR=>?_
  walk_at "rd"
  refine zaj hp T.cl_Rounds T.na_Rounds_queue ft.qu ?_
  refine ⟨_,rfl,⟨_,.of S.hq⟩,fun D hD=>?_⟩
  refine zrv (K:=K) (a:=a.pt) (xs:=q.map V.str) (v0:=none) (caps:=[some (.ref rl)]) (rdV rd) hD (.of S.hq) (by rw [List.length_map]; omega) (fun v hv v' H' C N' sm h1 h2=>?_) ?_
  ·obtain ⟨y,hy,rfl⟩:=List.mem_map.mp hv
   walk_at "rd"
   refine ⟨rl,_,rfl,.inl (.of (sm _ _ hrl)),rfl,zhr rd,_,rfl,?_⟩
   simp only [Bool.false_eq_true,if_false]
   rw [zop]
   by_cases c:y∈rd
   ·rw [decide_eq_true c]
    exact h1 _ (show (if y∈rd then some (V.str y) else none)=some (V.str y) by rw [if_pos c])
   ·rw [decide_eq_false c]
    exact h2 (show (if y∈rd then some (V.str y) else none)=none by rw [if_neg c])
  ·rw [zxp]
   have hh:∃ l,(q.filter fun x=>decide (x∈rd))=x :: l:=by
    rw [<- List.head?_filter] at hf
    cases e:q.filter fun x=>decide (x∈rd) with
    | nil=>rw [e] at hf; cases hf
    | cons y l=>rw [e] at hf; cases hf; exact ⟨l,rfl⟩
   obtain ⟨l,hl⟩:=hh
   rw [hl]
   refine zjp (.of zac) (v:=.str x) (zga (j:=0) rfl) ?_
   have s4:=zap (o:=.lst ((x :: l).map V.str)) hD
   have S:=S.same s4
   have hrl:=s4 _ _ hrl
   have ow4:=s4.own (a:=a)
   generalize upd H D (.lst ((x :: l).map V.str))=H1 at S hrl ow4 ⊢
   clear s4
   walk_at "rd"
   refine hR _ _ ?_
   clear hR
   obtain ⟨dx,fs,hp,ft⟩:=S.ex
   refine zae fun R hR=>?_
   walk_at "rd"
   refine zaj hp T.cl_Rounds T.na_Rounds_queue ft.qu ?_
   refine ⟨zfx S.hq,zyy nd xq lq ok S.hq (hR _ _ ?_)⟩
   clear hR
   have S:=S.set_q (q':=q.erase x)
   have ow:=ow4.trans (own_t (a:=a) (H:=H1) (o:=.lst ((q.erase x).map V.str)))
   generalize upd H1 a.pt (.lst ((q.erase x).map V.str))=H2 at S ow ⊢
   obtain ⟨dx,fs,hp,ft⟩:=S.ex
   refine zae fun R hR=>?_
   walk_at "rd"
   refine zch hp T.cl_Rounds T.na_Rounds_turn (by have:=ft.len; omega) (hR _ _ ?_)
   clear hR
   have S:=S.set_p hp (ft.put_tu (some x))
   have ow:=ow.trans (own_p (a:=a) (H:=H2) (o:=.ins c_Rounds dx (putF "turn" (.str x) fs)))
   have S:Rx c_Rounds c_Members (upd H2 a.p (.ins c_Rounds dx (putF "turn" (.str x) fs))) a most nm (q.erase x) rs (some x) ch:=S
   generalize upd H2 a.p (.ins c_Rounds dx (putF "turn" (.str x) fs))=H3 at S ow ⊢
   obtain ⟨dx,fs,hp,ft⟩:=S.ex
   have hg:=DGet.k (k:=Sum.inr x) S.hr
   rw [zfu,hr'] at hg
   refine zae fun R hR=>?_
   walk_at "rd"
   refine zaj hp T.cl_Rounds T.na_Rounds_rests ft.re ?_
   walk_at "rd"
   refine ⟨.int r,hg,?_⟩
   refine S.meth (by decide +kernel) ⟨a,most,nm,_,rs,some x,ch,x,s,rfl,S,hx,s0,s1,m0,m1,?_⟩
   refine ⟨_,rfl,_,rfl,?_⟩
   refine zaj hp T.cl_Rounds T.na_Rounds_rests ft.re ?_
   walk_at "rd"
   refine ⟨_,DPut.k (k:=Sum.inr x) S.hr (line_lt (by rw [zgd]; omega)),hR _ _ ?_⟩
   rw [zlv (by rw [hr']; simp)]
   walk_at "rd"
   exact k _ (ow.trans own_g) S.set_r
def zxr (C Cm:Addr):Sp:=fun vs H Q _=>∃ a most nm q rs tu ch rl,∃ rd:List Str,vs = [.ref a.p,.ref rl]/\Rx C Cm H a most nm q rs tu ch/\PickOk H a most nm q rs tu rl rd /\
 ∀ x H',pickX q rs tu rd=some x->Own a H H'->Rx C Cm H' a most nm (pickQ q rs tu rd x) (pickR most nm rs tu rd x) (some x) ch->Q (.str x) H'
theorem zmf (T:Txt K mg c_NoName c_Taken c_NoClass c_NoPlace c_NoShare c_NoLength c_TooEarly c_NoneReady c_Members c_Chooser c_Starts c_Rounds c_Node c_Tree):MethD P w K mg base (CXX P w) 6 c_Rounds "pick" ["self", "ready"] [[]] (zxr c_Rounds c_Members):=by
 have M_Rounds_end_turn:=zil (P:=P) (w:=w) (base:=base) T
 have M_Rounds_begin_turn:=zgx (P:=P) (w:=w) (base:=base) T
 refine T.me_Rounds_pick.okN (k:=5) zku (fun vs H Q E h=>?_) (fun f cdv A outer s H vs Q E hr h=>?_)
 ·obtain ⟨a,most,nm,q,rs,tu,ch,rl,rd,rfl,_⟩:=h
  rfl
 ·obtain ⟨a,most,nm,q,rs,tu,ch,rl,rd,rfl,S,O,k⟩:=h
  refine ⟨_,(zad (ps_if (PW.pt (zlc (zba (zsh K rfl) (zaq (pv 0) rfl) (pv 1) rfl) (zji (zba op_gt (zdd (hu_of hr) (zaq (pv 0) rfl) (zaq (pv 0) rfl) (fun _ _=>rfl)) zam (zbk _))))) (zah (zbd (zaq (pv 0) rfl))) zbb) (zad (zay (zci (dvs:=[]) M_Rounds_end_turn (by simp) T.cl_Rounds (hr.mono (by decide)) passN (pv 0))) (zah (zbd (zar (dvs:=[]) M_Rounds_begin_turn (by simp) T.cl_Rounds (hr.mono (by decide)) passN (pv 0) (zaa (pv 1) zaf)))))),?_⟩
  show tSeq _ _ _ [some (.ref a.p),some (.ref rl)] H
  obtain ⟨dx,fs,hp,ft⟩:=S.ex
  have h:=O.ri
  have nl:=O.nl
  obtain ⟨l1,l2⟩:=zpu h
  refine zae fun R hR=>?_
  have post:keepT rs rd tu=false->R [some (.ref a.p),some (.ref rl)] H:=by
   intro kt
   refine hR _ _ ?_
   have h1:=zvl h
   obtain ⟨x,s,r,hf,xr,xq,e1,e2⟩:=zsq h1 O.ne O.sb
   obtain ⟨s0,s1⟩:=h.sh x s e1
   obtain ⟨l3,l4⟩:=zpu h1
   refine zae fun R hR=>?_
   walk_at "rd"
   refine S.meth (by decide +kernel) ⟨a,most,nm,q,rs,tu,ch,rfl,S,by omega,by omega,fun t ht=>(ri_rs h).mpr (ri_tu h ht),fun H1 ow S1=>hR _ _ ?_⟩
   walk_at "rd"
   refine S1.meth (by decide +kernel) ⟨a,most,nm,_,_,none,ch,rl,rd,x,s,r,rfl,S1,S.own_l ow O.hl O.nq,O.nq,hf,ri_nd h1,by omega,fun y hy=>O.ok y (ri_q h1 hy),by omega,e1,e2,s0,s1,h.m0,O.m1,fun H2 ow2 S2=>?_⟩
   refine k x H2 ?_ (ow.trans ow2) ?_
   ·unfold pickX
    rw [kt]
    exact hf
   ·unfold pickQ pickR zfb
    rw [kt,e1,e2]
    exact S2
  clear hR
  walk_at "rd"
  refine zaj hp T.cl_Rounds T.na_Rounds_turn ft.tu ?_
  cases tu with
  | none =>
   unfold optS
   walk_at "rd"
   refine ⟨rl,_,rfl,.inl (.of O.hl),rfl,zhr rd,_,rfl,?_⟩
   simp only [Bool.false_eq_true,if_false]
   rw [zxq,if_neg (by decide)]
   exact post rfl
  | some t =>
   unfold optS
   walk_at "rd"
   refine ⟨rl,_,rfl,.inl (.of O.hl),rfl,zhr rd,_,rfl,?_⟩
   simp only [Bool.false_eq_true,if_false]
   rw [zop]
   refine ite2 (fun c=>?_) fun c=>?_
   ·have c:t∈rd:=of_decide_eq_true c
    cases e:shOf rs t with
    | none=>exact absurd e ((ri_rs h).mpr (ri_tu h rfl))
    | some r =>
     have hg:=DGet.k (k:=Sum.inr t) S.hr
     rw [zfu,e] at hg
     refine zaj hp T.cl_Rounds T.na_Rounds_rests ft.re ?_
     refine zaj hp T.cl_Rounds T.na_Rounds_turn ft.tu ?_
     walk_at "rd"
     refine ⟨.int r,hg,?_⟩
     walk_at "rd"
     have er:zfb rs t=r:=by unfold zfb; rw [e]; rfl
     refine ite2 (fun c2=>?_) fun c2=>?_
     ·refine zaj hp T.cl_Rounds T.na_Rounds_turn ft.tu ?_
      have kt:keepT rs rd (some t)=true:=by rw [zet,er,decide_eq_true c,decide_eq_true c2]; rfl
      refine k t H ?_ (fun _ _ _ _ _ _ e=>e) ?_
      ·unfold pickX; rw [if_pos kt]
      ·unfold pickQ pickR; rw [if_pos kt,if_pos kt]; exact S
     ·refine post ?_
      rw [zet,er,decide_eq_false c2,Bool.and_false]
   ·refine post ?_
    rw [zet,decide_eq_false (fun z=>c (decide_eq_true z)),Bool.false_and]
def ztb (C Cm:Addr):Sp:=fun vs H Q _=>∃ a most nm q rs tu ch x r len,vs = [.ref a.p,.str x,.int len]/\Rx C Cm H a most nm q rs tu ch/\rs.length<900/\shOf rs x=some r/\∀ H',Own a H H'->Rx C Cm H' a most nm q (putN rs x (r-len)) tu ch->Q .non H'
theorem zkj (T:Txt K mg c_NoName c_Taken c_NoClass c_NoPlace c_NoShare c_NoLength c_TooEarly c_NoneReady c_Members c_Chooser c_Starts c_Rounds c_Node c_Tree):MethD P w K mg base (CXX P w) 1 c_Rounds "charge" ["self", "name", "length"] [[]] (ztb c_Rounds c_Members):=by
 refine T.me_Rounds_charge.okN (k:=0) zja (fun vs H Q E h=>?_) (fun f cdv A outer s H vs Q E hr h=>?_)
 ·obtain ⟨a,most,nm,q,rs,tu,ch,x,r,len,rfl,_⟩:=h
  rfl
 ·obtain ⟨a,most,nm,q,rs,tu,ch,x,r,len,rfl,S,lr,hr',k⟩:=h
  refine ⟨_,(zah (zez (hu_of hr) (zaq (pv 0) rfl) (pv 1) (pe_op zmm (zdd (hu_of hr) (zaq (pv 0) rfl) (pv 1) (fun _ _=>rfl)) (pv 2)) rfl)),?_⟩
  show (_:TS) _ [some (.ref a.p),some (.str x),some (.int len)] H
  obtain ⟨dx,fs,hp,ft⟩:=S.ex
  have hg:=DGet.k (k:=Sum.inr x) S.hr
  rw [zfu,hr'] at hg
  walk_at "rd"
  refine zaj hp T.cl_Rounds T.na_Rounds_rests ft.re ?_
  walk_at "rd"
  refine ⟨.int r,hg,?_⟩
  walk_at "rd"
  refine zaj hp T.cl_Rounds T.na_Rounds_rests ft.re ?_
  walk_at "rd"
  refine ⟨_,DPut.k (k:=Sum.inr x) S.hr (line_lt (by rw [zgd]; omega)),?_⟩
  rw [zlv (by rw [hr']; simp)]
  exact k _ own_g S.set_r
def zzn (C Cm:Addr):Sp:=fun vs H Q _=>∃ a most nm q rs tu x r len,vs = [.ref a.p,.int len]/\Rx C Cm H a most nm q rs tu (.str x)/\rs.length<900/\shOf rs x=some r/\∀ H',Own a H H'->Rx C Cm H' a most nm q (putN rs x (r-len)) tu (.str x)->Q .non H'
theorem zny (T:Txt K mg c_NoName c_Taken c_NoClass c_NoPlace c_NoShare c_NoLength c_TooEarly c_NoneReady c_Members c_Chooser c_Starts c_Rounds c_Node c_Tree):MethD P w K mg base (CXX P w) 2 c_Rounds "pay" ["self", "length"] [[]] (zzn c_Rounds c_Members):=by
 have M_Rounds_charge:=zkj (P:=P) (w:=w) (base:=base) T
 refine T.me_Rounds_pay.okN (k:=1) zmd (fun vs H Q E h=>?_) (fun f cdv A outer s H vs Q E hr h=>?_)
 ·obtain ⟨a,most,nm,q,rs,tu,x,r,len,rfl,_⟩:=h
  rfl
 ·obtain ⟨a,most,nm,q,rs,tu,x,r,len,rfl,S,lr,hr',k⟩:=h
  refine ⟨_,(zah (zay (zar (dvs:=[]) M_Rounds_charge (by simp) T.cl_Rounds (hr.mono (by decide)) passN (pv 0) (zaa (zaq (pv 0) rfl) (zaa (pv 1) zaf))))),?_⟩
  show (_:TS) _ [some (.ref a.p),some (.int len)] H
  obtain ⟨dx,fs,hp,ft⟩:=S.ex
  walk_at "rd"
  refine S.meth (by decide +kernel) ?_
  refine zaj hp T.cl_Rounds T.na_Rounds_chosen ft.ch ?_
  exact ⟨a,most,nm,q,rs,tu,.str x,x,r,len,rfl,S,lr,hr',k⟩
def ztc (cR cC C Cm:Addr):Sp:=fun vs H Q E=>∃ a most nm q rs tu ch rl,∃ rd:List Str,vs = [.ref a.p,.ref rl]/\Rx C Cm H a most nm q rs tu ch/\H rl=some (.lst (rd.map V.str))/\(rd = []->Rs cR H E)/\(rd≠[]->(∃ x∈rd,shOf nm x=none)->Rs cC H E) /\
 (rd≠[]->(∀ x∈rd,shOf nm x≠none)->PickOk H a most nm q rs tu rl rd/\∀ x H',pickX q rs tu rd=some x->Own a H H'->Rx C Cm H' a most nm (pickQ q rs tu rd x) (pickR most nm rs tu rd x) (some x) (.str x)->Q (.str x) H')
theorem zkk (T:Txt K mg c_NoName c_Taken c_NoClass c_NoPlace c_NoShare c_NoLength c_TooEarly c_NoneReady c_Members c_Chooser c_Starts c_Rounds c_Node c_Tree):MethD P w K mg base (CXX P w) 7 c_Rounds "choose" ["self", "ready"] [[]] (ztc c_NoneReady c_NoClass c_Rounds c_Members):=by
 have M_Members_check_name:=zdb (P:=P) (w:=w) (base:=base) T
 have M_Rounds_pick:=zmf (P:=P) (w:=w) (base:=base) T
 refine T.me_Rounds_choose.okX (k:=6) sc_Rounds_choose (fun vs H Q E h=>?_) (fun f cdv A outer s H vs Q E hr h=>?_)
 ·obtain ⟨a,most,nm,q,rs,tu,ch,rl,rd,rfl,_⟩:=h
  rfl
 ·obtain ⟨a,most,nm,q,rs,tu,ch,rl,rd,rfl,S,hrl,kr,kc,k⟩:=h
  refine ⟨_,(zad (ps_if (zir (zjs K rfl (pv 1))) (zah (zcs K rfl rfl zek (zel T.ex_NoneReady T.kp_NoneReady rfl T.mg_NoneReady (zaa zbz zaf)))) zbb) (zad (zis PassesOwn.leaving rfl (zcr K rfl (pv 1)) (zbm (i:=2) sc_Rounds_choose.nd rfl (by first|left;rfl|right;rfl)) (zah (zay (zar (dvs:=[]) M_Members_check_name (by simp) T.cl_Members (hr.mono (by decide)) passF (zaq (pv 0) rfl) (zaa (pv 2) zaf))))) (zad (zcg (pv 0) (zar (dvs:=[]) M_Rounds_pick (by simp) T.cl_Rounds (hr.mono (by decide)) passF (pv 0) (zaa (pv 1) zaf)) rfl) (zah (zbd (zaq (pv 0) rfl)))))),?_⟩
  show tSeq _ _ _ [some (.ref a.p),some (.ref rl),none] H
  refine zae fun R hR=>?_
  walk_at "rd"
  by_cases hne:rd = []
  ·refine ⟨false,.inl ⟨_,.of hrl,by rw [hne]; rfl⟩,?_⟩
   rw [if_pos rfl]
   exact rs_of (kr hne) T.xc_NoneReady
  refine ⟨true,.inl ⟨_,.of hrl,by cases rd with | nil=>exact absurd rfl hne | cons y r=>rfl⟩,?_⟩
  rw [if_neg (by decide)]
  refine hR _ _ ?_
  refine zae fun R hR=>?_
  refine zfg fun Z hZ=>?_
  walk_at "rd"
  refine ⟨⟨_,.of hrl⟩,hZ _ _ ?_⟩
  obtain ⟨dx,fs,hp,ft⟩:=S.ex
  obtain ⟨dm,fm,hpm,hfm,hno,hlen⟩:=S.mb.ex
  refine zfc (K:=K) (a:=rl) (xs:=rd.map V.str) (fun i σ H'=>H'=H/\(∃ v2,σ = [some (.ref a.p),some (.ref rl),v2])/\∀ y∈rd.take i,shOf nm y≠none) ⟨rfl,⟨none,rfl⟩,fun y h=>absurd h (by simp)⟩ (fun i σ H' _ ⟨e,_⟩=>by rw [e]; exact .of hrl) ?_ ?_
  ·rintro i x σ H2 hx ⟨rfl,⟨v2,rfl⟩,al⟩
   obtain ⟨y,hy,rfl⟩:∃ y,rd[i]? = some y/\V.str y=x:=by simpa using hx
   show (_:TS) _ [some (.ref a.p),some (.ref rl),some (.str y)] _
   refine zfl fun R hR=>?_
   walk_at "rd"
   refine zaj hp T.cl_Rounds T.na_Rounds_members ft.me ?_
   refine zav hpm (hno _ (by decide +kernel)) ⟨a.pm,a.ps,nm,y,rfl,S.mb,fun hy'=>hR _ _ ⟨rfl,⟨_,rfl⟩,fun z hz=>?_⟩,fun z=>kc hne ⟨y,List.mem_of_getElem? hy,z⟩⟩
   rw [ziu hy] at hz
   rcases List.mem_append.mp hz with v | v
   ·exact al z v
   ·rw [List.mem_singleton.mp v]; exact hy'
  ·rintro σ H2 ⟨rfl,⟨v2,rfl⟩,al⟩
   rw [List.length_map,List.take_length] at al
   obtain ⟨O,k⟩:=k hne al
   refine hR _ _ ?_
   refine zae fun R hR=>?_
   walk_at "rd"
   refine S.meth (by decide +kernel) ⟨a,most,nm,q,rs,tu,ch,rl,rd,rfl,S,O,fun x H3 e ow S3=>?_⟩
   obtain ⟨dx,fs,hp,ft⟩:=S3.ex
   refine zch hp T.cl_Rounds T.na_Rounds_chosen (by have:=ft.len; omega) (hR _ _ ?_)
   have S4:=S3.set_p hp (ft.put_ch (ch':=.str x))
   walk_at "rd"
   refine zaj zac T.cl_Rounds T.na_Rounds_chosen zbf ?_
   exact k x _ e (ow.trans own_p) S4
theorem zla (T:Txt K mg c_NoName c_Taken c_NoClass c_NoPlace c_NoShare c_NoLength c_TooEarly c_NoneReady c_Members c_Chooser c_Starts c_Rounds c_Node c_Tree):Def P w K mg base (CXX P w) 1 "_law_cell_at" ["_law_script", "_law_k"] (zve K):=by
 refine T.src__law_cell_at.okN (k:=0) zka (fun vs H Q E h=>?_) (fun f cdv A outer s H vs Q E hr h=>?_)
 ·obtain ⟨a,ns,i,rfl,_⟩:=h
  rfl
 ·obtain ⟨a,ns,i,rfl,hS,hi,k⟩:=h
  refine ⟨_,(zad (ps_if (zba op_lt (pv 1) (zcq (zgc K rfl) rfl T.no_len boot_len (zaa (pv 0) zaf)) (zbk _)) (zah (zbd (pe_ix (zfe K rfl) (pv 0) (pv 1) (fun _ _=>rfl)))) zbb) (zah (zbd zam))),?_⟩
  refine ⟨_,rfl,_,rfl,a,_,rfl,.inl hS,_,_,rfl,rfl,_,rfl,?_⟩
  refine ite2 (fun h=>?_) (fun h=>?_)
  ·have h':i<(ns.map V.int).length:=of_decide_eq_true h
   exact ⟨_,rfl,_,rfl,a,_,_,_,rfl,rfl,hS,zqk hi (by simpa using h'),k⟩
  ·have h':¬ i<(ns.map V.int).length:=fun z=>h (decide_eq_true z)
   show Q (.int 0) H
   rw [zod hi (by simpa using h')] at k
   exact k
def spCM (cL:Addr):Sp:=fun vs H Q E=>∃ m:Int,vs = [.int m]/\(1<=m/\m<=1000000->Q .non H)/\(¬ (1<=m/\m<=1000000)->Rs cL H E)
theorem ziv (T:Txt K mg c_NoName c_Taken c_NoClass c_NoPlace c_NoShare c_NoLength c_TooEarly c_NoneReady c_Members c_Chooser c_Starts c_Rounds c_Node c_Tree):Def P w K mg base (CXX P w) 1 "check_most" ["most"] (spCM c_NoLength):=by
 refine T.src_check_most.okX (k:=0) zly (fun vs H Q E h=>?_) (fun f cdv A outer s H vs Q E hr h=>?_)
 ·obtain ⟨m,rfl,_⟩:=h
  rfl
 ·obtain ⟨m,rfl,k,kx⟩:=h
  refine ⟨_,(zah (ps_if (zir (zlp op_le op_le zam (pv 0) (zjc rfl T.mg_GREATEST_LENGTH))) (zah (zcs K rfl rfl zek (zel T.ex_NoLength T.kp_NoLength rfl T.mg_NoLength (zaa zbz zaf)))) zbb)),?_⟩
  show tIfS _ _ _ _ [some (.int m)] H
  walk_at "rd"
  refine ite2 (fun c1=>ite2 (fun c2=>k ⟨c1,c2⟩) fun c2=>rs_of (kx fun q=>c2 q.2) T.xc_NoLength) fun c1=>rs_of (kx fun q=>c1 q.1) T.xc_NoLength
def spIN:Sp:=fun vs H Q _=>∃ z:Str,vs = [.str z]/\z.length<=10000/\∀ H',Same H H'->Q (.bl (decide (zej z))) H'
theorem ztd (T:Txt K mg c_NoName c_Taken c_NoClass c_NoPlace c_NoShare c_NoLength c_TooEarly c_NoneReady c_Members c_Chooser c_Starts c_Rounds c_Node c_Tree):Def P w K mg base (CXX P w) 1 "is_name" ["text"] spIN:=by
 refine T.src_is_name.okN (k:=0) zqq (fun vs H Q E h=>?_) (fun f cdv A outer s H vs Q E hr h=>?_)
 ·obtain ⟨z,rfl,_⟩:=h
  rfl
 ·obtain ⟨z,rfl,zl,k⟩:=h
  refine ⟨_,(zah (zbd (zyc (zto op_le op_le zam (zcq zmv rfl T.no_len boot_len (zaa (pv 0) zaf)) (zjc rfl T.mg_LONGEST_NAME)) (zuy (zcq (zrt K rfl rfl) rfl T.no_all boot_all (zaa (pe_lc ["sign"] [] rfl (by with_unfolding_all rfl) (by decide +kernel) rfl (by decide +kernel) (by exact True.intro) (by with_unfolding_all rfl) True.intro (zyz (pv 0)) (fun _ _ _=>(zbm (i:=0) (show (["sign"]:List Str).Nodup from by decide +kernel) rfl (by first|left;rfl|right;rfl))) (fun _ _ _=>zfs) (fun _ _ _=>(zgo zza (pv 0) (zgh rfl T.mg_LETTERS) rfl))) zaf)))))),?_⟩
  show tRet _ _ [some (.str z)] H
  walk_at "rd"
  have no:∀ {H'},Same H H'->¬ zej z->Q (.bl false) H':=fun s q=>by
   have:=k _ s
   rw [decide_eq_false q] at this
   exact this
  refine ⟨zwu (by omega),ite2 (fun c1=>ite2 (fun c2=>?_) fun c2=>no (Same.refl _) fun q=>c2 (by have:=q.1.2; omega)) fun c1=>no (Same.refl _) fun q=>c1 (by have:=q.1.1; omega)⟩
  simp only [iStr]
  walk_at "rd"
  intro D hD
  show CompG _ _ _ _ D [none] _ _
  refine zue (fun i τ H'=>(∃ v,τ = [v])/\Same H H'/\H' D=some (.lst (((z.cps.toList.take i).map fun c=>decide (c∈lets.cps.toList)).map V.bl))) ⟨⟨none,rfl⟩,zap hD,zac⟩ ?_ ?_
  ·rintro i c τ H' hc ⟨⟨v,rfl⟩,s',hDl⟩
   have hi:=(List.getElem?_eq_some_iff.mp hc).1
   rw [Sw.len_list] at hi
   walk_at "rd"
   simp only [tYes,if_true]
   walk_at "rd"
   refine ⟨sg c,lets,rfl,rfl,?_⟩
   refine ⟨_,hDl,zeq (by rw [List.length_map,List.length_map,List.length_take]; omega),fun b o e=>?_,?_⟩
   ·rw [zai (zan e hD)]; exact s' _ _ e
   ·rw [zac,zeb hc,List.map_append,List.map_append]
    show some (HO.lst (_++[V.bl (Txt.contains lets (sg c))]))=some (HO.lst (_++[V.bl (decide (c∈lets.cps.toList))]))
    rw [Sw.in_str lets c]
  ·rintro τ H1 ⟨_,s1,hDl⟩
   rw [<- Sw.len_list,List.take_length] at hDl
   refine ⟨D,_,rfl,.of hDl,?_⟩
   have e:((z.cps.toList.map fun c=>decide (c∈lets.cps.toList)).all id)=decide (zej z):=by
    rw [Bool.eq_iff_iff,List.all_eq_true,decide_eq_true_iff]
    constructor
    ·intro h
     refine ⟨⟨by omega,by omega⟩,fun c hc=>?_⟩
     have:=h _ (List.mem_map.mpr ⟨c,hc,rfl⟩)
     simpa using this
    ·intro h x hx
     obtain ⟨c,hc,rfl⟩:=List.mem_map.mp hx
     simpa using h.2 c hc
   rw [e]
   exact k _ s1
def spCO (cS cR cM:Addr):Sp:=fun vs H Q _=>∃ (kd:Str) (m:Int),vs = [.str kd,.int m]/\1<=m/\(Inner kd->∀ (a:At5) H',Same H H'->(∀ b∈five a,H b=none)->ChS cS cR cM H' a m (CSt.new (kdB kd))->Q (.ref a.p) H')/\(¬ Inner kd->Q .non H)
theorem ziw (T:Txt K mg c_NoName c_Taken c_NoClass c_NoPlace c_NoShare c_NoLength c_TooEarly c_NoneReady c_Members c_Chooser c_Starts c_Rounds c_Node c_Tree):Def P w K mg base (CXX P w) 6 "chooser_of" ["kind", "most"] (spCO c_Starts c_Rounds c_Members):=by
 have K_Starts:=zuq (P:=P) (w:=w) (base:=base) T
 have K_Rounds:=zut (P:=P) (w:=w) (base:=base) T
 refine T.src_chooser_of.okN (k:=5) zlz (fun vs H Q E h=>?_) (fun f cdv A outer s H vs Q E hr h=>?_)
 ·obtain ⟨c,m,rfl,_⟩:=h
  rfl
 ·obtain ⟨kd,m,rfl,m1,k,kn⟩:=h
  refine ⟨_,(zad (ps_if (zba op_eq (pv 0) zbz (zbk _)) (zah (zbd (zhd (dvs:=[]) K_Starts (by simp) (hr.mono (by decide)) passN rfl T.mg_Starts (zaa (pv 1) zaf)))) zbb) (zad (ps_if (zba op_eq (pv 0) zbz (zbk _)) (zah (zbd (zhd (dvs:=[]) K_Rounds (by simp) (hr.mono (by decide)) passN rfl T.mg_Rounds (zaa (pv 1) zaf)))) zbb) (zah (zbd zdn)))),?_⟩
  show tSeq _ _ _ [some (.str kd),some (.int m)] H
  have no:∀ {H1:Hp} {b:Addr},Same H H1->H1 b=none->H b=none:=fun {H1 b} s e=>by
   cases z:H b with
   | none=>rfl
   | some o=>rw [s _ _ z] at e; cases e
  have nw:∀ {a:At5} {H1:Hp},Same H H1->H a.p=none->H1 a.pm=none->H1 a.ps=none->H1 a.pt=none->H1 a.pg=none->∀ b∈five a,H b=none:=fun {a H1} s h1 h2 h3 h4 h5 b hb=>by
   rcases mem_five.mp hb with z | z | z | z | z <;> subst z
   ·exact h1
   ·exact no s h2
   ·exact no s h3
   ·exact no s h4
   ·exact no s h5
  refine zae fun R hR=>?_
  walk_at "rd"
  refine ite2 (fun c1=>?_) fun c1=>hR _ _ ?_
  ·intro x dx hx hdx ne
   refine ⟨x,dx,m,rfl,zac,fun a H2 ea bt n1 n2 n3 n4 S=>⟨rfl,?_⟩⟩
   subst ea
   have e:kdB kd=false:=by rw [c1]; decide +kernel
   exact k (.inl c1) a H2 (bt.same (zdp hx hdx) hx) (nw (zdp hx hdx) hx n1 n2 n3 n4) (by rw [e]; exact S)
  clear hR
  refine zae fun R hR=>?_
  walk_at "rd"
  refine ite2 (fun c2=>?_) fun c2=>hR _ _ ?_
  ·intro x dx hx hdx ne
   refine ⟨x,dx,m,rfl,zac,fun a H2 ea bt n1 n2 n3 n4 S=>⟨rfl,?_⟩⟩
   subst ea
   have e:kdB kd=true:=by rw [c2]; decide +kernel
   exact k (.inr c2) a H2 (bt.same (zdp hx hdx) hx) (nw (zdp hx hdx) hx n1 n2 n3 n4) (by rw [e]; exact S)
  walk_at "rd"
  exact kn fun q=>q.elim c1 c2
def spNI (cN:Addr):Sp:=fun vs H Q _=>∃ x dx ab ch rm,vs = [.ref x,ab,ch,rm]/\H x=some (.ins cN dx [])/\∀ ql fs H',But x H H'->H ql=none->H' x=some (.ins cN dx fs)->FN fs ab ch rm .non ql->H' ql=some (.lst [])->Q .non H'
theorem zvp (T:Txt K mg c_NoName c_Taken c_NoClass c_NoPlace c_NoShare c_NoLength c_TooEarly c_NoneReady c_Members c_Chooser c_Starts c_Rounds c_Node c_Tree):MkD P w K mg base (CXX P w) 1 c_Node ["self", "above", "chooser", "room"] [[],[V.non]] (spNI c_Node):=by
 refine T.in_Node.okN (k:=0) znr (fun vs H Q E h=>?_) (fun f cdv A outer s H vs Q E hr h=>?_)
 ·obtain ⟨x,dx,ab,ch,rm,rfl,_⟩:=h
  rfl
 ·obtain ⟨x,dx,ab,ch,rm,rfl,hx,k⟩:=h
  refine ⟨_,(zad (zcg (pv 0) (pv 1) rfl) (zad (zcg (pv 0) (pv 2) rfl) (zad (zcg (pv 0) (pv 3) rfl) (zad (zcg (pv 0) zdn rfl) (zah (zcg (pv 0) (zgl zaf) rfl)))))),?_⟩
  show tSeq _ _ _ [some (.ref x),some ab,some ch,some rm] H
  have l1:=zao (fs:=[]) (f := "above") (v:=ab)
  have l2:=zao (fs:=putF "above" ab []) (f := "chooser") (v:=ch)
  have l3:=zao (fs:=putF "chooser" ch (putF "above" ab [])) (f := "room") (v:=rm)
  have l4:=zao (fs:=putF "room" rm (putF "chooser" ch (putF "above" ab []))) (f := "bucket") (v:=.non)
  simp only [List.length_nil] at l1
  refine zae fun R hR=>?_
  walk_at "rd"
  refine zch hx T.cl_Node T.na_Node_above (by simp) (hR _ _ ?_)
  clear hR
  refine zae fun R hR=>?_
  walk_at "rd"
  refine zch zac T.cl_Node T.na_Node_chooser (by omega) (hR _ _ ?_)
  clear hR
  rw [zex]
  refine zae fun R hR=>?_
  walk_at "rd"
  refine zch zac T.cl_Node T.na_Node_room (by omega) (hR _ _ ?_)
  clear hR
  rw [zex]
  refine zae fun R hR=>?_
  walk_at "rd"
  refine zch zac T.cl_Node T.na_Node_bucket (by omega) (hR _ _ ?_)
  clear hR
  rw [zex]
  walk_at "rd"
  intro ql fql
  have nx:ql≠x:=fun z=>by rw [z,zac] at fql; cases fql
  have nql:H ql=none:=by rw [zai nx] at fql; exact fql
  refine zch (by rw [zai (Ne.symm nx),zac]) T.cl_Node T.na_Node_queue (by omega) ?_
  refine k ql _ _ (fun b o n e=>?_) nql zac (FN.mk0 _ _ _ _ _) ?_
  ·rw [zai n,zai (zan e nql),zai n]; exact e
  ·rw [zai nx,zac]
def spCC (cC:Addr) (C:Cl):Sp:=fun vs H Q E=>∃ (D:TD) (x:Str),vs = [.ref D.p,.str x]/\TrOk C H D/\(x≠road->fndN D.ns x≠none->Q .non H)/\(x=road\/fndN D.ns x=none->Rs cC H E)
theorem zht (T:Txt K mg c_NoName c_Taken c_NoClass c_NoPlace c_NoShare c_NoLength c_TooEarly c_NoneReady c_Members c_Chooser c_Starts c_Rounds c_Node c_Tree):MethD P w K mg base (CXX P w) 1 c_Tree "check_class" ["self", "name"] [[]] (spCC c_NoClass (⟨c_Node,c_Starts,c_Rounds,c_Members,c_Node,c_Tree⟩:Cl)):=by
 refine T.me_Tree_check_class.okX (k:=0) zgs (fun vs H Q E h=>?_) (fun f cdv A outer s H vs Q E hr h=>?_)
 ·obtain ⟨D,x,rfl,_⟩:=h
  rfl
 ·obtain ⟨D,x,rfl,O,k,kx⟩:=h
  refine ⟨_,(zah (ps_if (PW.pt (pw_or (zba op_eq (pv 1) (zgh rfl T.mg_ROAD) (zbk _)) (zml (zjh (zjr (hu_of hr) (pv 1) (zaq (pv 0) rfl)))))) (zah (zcs K rfl rfl zek (zel T.ex_NoClass T.kp_NoClass rfl T.mg_NoClass (zaa zbz zaf)))) zbb)),?_⟩
  show tIfS _ _ _ _ [some (.ref D.p),some (.str x)] H
  obtain ⟨dx,fs,hp,ft⟩:=O.ex
  walk_at "rd"
  refine ite2 (fun c1=>rs_of (kx (.inl c1)) T.xc_NoClass) fun c1=>?_
  refine zaj hp T.cl_Tree T.na_Tree_nodes ft.no ?_
  walk_at "rd"
  refine ⟨_,DGet.k (k:=Sum.inr x) O.hn,?_⟩
  rw [zjv]
  cases e:fndN D.ns x with
  | none=>exact rs_of (kx (.inr e)) T.xc_NoClass
  | some v=>exact k c1 (by rw [e]; simp)
def spFR (C:Cl):Sp:=fun vs H Q _=>∃ (D:TD) (x:Str) (ys:List Str),vs = [.ref D.p,.str x]/\TrOk C H D/\Up D.ns x ys/\ys.length<=900/\∀ l H',Same H H'->H l=none->H' l=some (.lst (ys.reverse.map V.str))->Q (.ref l) H'
theorem zec (T:Txt K mg c_NoName c_Taken c_NoClass c_NoPlace c_NoShare c_NoLength c_TooEarly c_NoneReady c_Members c_Chooser c_Starts c_Rounds c_Node c_Tree):MethD P w K mg base (CXX P w) 1 c_Tree "from_road" ["self", "name"] [[]] (spFR (⟨c_Node,c_Starts,c_Rounds,c_Members,c_Node,c_Tree⟩:Cl)):=by
 refine T.me_Tree_from_road.okN (k:=0) sc_Tree_from_road (fun vs H Q E h=>?_) (fun f cdv A outer s H vs Q E hr h=>?_)
 ·obtain ⟨D,x,ys,rfl,_⟩:=h
  rfl
 ·obtain ⟨D,x,ys,rfl,O,U,yl,k⟩:=h
  refine ⟨_,(zad (zbc (i:=2) sc_Tree_from_road.nd rfl (by first|left;rfl|right;rfl) (zgl zaf)) (zad (zjb PassesOwn.never (zba zfq (pv 1) zdn (zbk _)) (zad (zay (pe_bm PySem.F.plainAttrs_list PySem.F.slot_list_append PySem.F.type_list_append zdo (pv 2) (zaa (pv 1) zaf))) (zah (zbc (i:=1) sc_Tree_from_road.nd rfl (by first|left;rfl|right;rfl) (zaq (zdd (hu_of hr) (zaq (pv 0) rfl) (pv 1) (fun _ _=>rfl)) rfl))))) (zad (zay (zyk PySem.F.plainAttrs_list PySem.F.slot_list_reverse PySem.F.type_list_reverse zqj (pv 2))) (zah (zbd (pv 2)))))),?_⟩
  show tSeq _ _ _ [some (.ref D.p),some (.str x),none] H
  refine zae fun R hR=>?_
  walk_at "rd"
  intro l hl
  have s0:=zap (o:=.lst []) hl
  refine hR _ _ ?_
  clear hR
  refine zae fun R hR=>?_
  refine zoi (fun m σ H'=>∃ (xo:Option Str) (zs ws:List Str),σ = [some (.ref D.p),some (optS xo),some (.ref l)]/\Same H H'/\H' l=some (.lst (zs.map V.str))/\ys=zs++ws/\(∀ z,xo=some z->Up D.ns z ws)/\(xo=none->ws = [])/\m=ws.length) ⟨some x,[],ys,rfl,s0,zac,rfl,fun z e=>(by cases e; exact U),fun e=>(by cases e),rfl⟩ ?_
  rintro m σ H1 ⟨xo,zs,ws,rfl,s1,h1,ey,hu,hn,rfl⟩
  cases xo with
  | none =>
   refine ⟨false,fun Q hQ=>?_,fun z=>(by cases z),fun _=>?_⟩
   ·walk_at "rd"
    exact hQ
   ·have:ws = []:=hn rfl
    subst this
    rw [List.append_nil] at ey
    subst ey
    refine hR _ _ ?_
    clear hR
    refine zae fun R hR=>?_
    walk_at "rd"
    refine ⟨zfx h1,l,_,rfl,rfl,h1,hR _ _ ?_⟩
    walk_at "rd"
    refine k l _ (fun b o e=>?_) hl ?_
    ·rw [zai (zan e hl)]; exact s1 _ _ e
    ·rw [zac,List.map_reverse]
  | some z =>
   have Uz:=hu z rfl
   obtain ⟨n,hz⟩:=Uz.fnd
   refine ⟨true,fun Q hQ=>?_,fun _=>?_,fun z=>by cases z⟩
   ·walk_at "rd"
    exact hQ
   ·have zl:zs.length<=900:=by rw [ey,List.length_append] at yl; omega
    refine zae fun R hR=>?_
    walk_at "rd"
    refine ⟨zfx h1,zhc h1 (by rw [List.length_map]; omega) (hR _ _ ?_)⟩
    clear hR
    have O1:=O.same s1
    have s2:Same H (upd H1 l (.lst (zs.map V.str++[.str z]))):=fun b o e=>by rw [zai (zan e hl)]; exact s1 _ _ e
    have O2:=O.same s2
    have h2:upd H1 l (.lst (zs.map V.str++[.str z])) l=some (.lst ((zs++[z]).map V.str)):=by rw [zac,List.map_append]; rfl
    show tAsg _ _ _ _ (upd H1 l (.lst (zs.map V.str++[.str z])))
    generalize upd H1 l (.lst (zs.map V.str++[.str z]))=H2 at s2 O2 h2 ⊢
    obtain ⟨dx,fs,hp,ft⟩:=O2.ex
    obtain ⟨nin,_⟩:=zas hz
    obtain ⟨dn,fn,hnp,hft⟩:=(O2.nd n nin).ex
    walk_at "rd"
    refine zaj hp T.cl_Tree T.na_Tree_nodes ft.no ?_
    walk_at "rd"
    refine ⟨_,nd_at O2 hz,?_⟩
    refine zaj hnp T.cl_Node T.na_Node_above hft.ab ?_
    cases Uz with
    | top q1 q2 =>
     rw [hz] at q1; cases q1
     exact ⟨0,by simp,none,by rw [q2],s2,zs++[z],h2,[],by rw [List.append_nil]; exact ey,fun z e=>(by cases e),fun _=>rfl,rfl⟩
    | on q1 q2 q3 =>
     rw [hz] at q1; cases q1
     rename_i y ys'
     exact ⟨ys'.length,by simp,some y,by rw [q2],s2,zs++[z],h2,ys',by rw [ey]; simp,fun z e=>(by cases e; exact q3),fun e=>(by cases e),rfl⟩
def spCP (cP:Addr) (C:Cl):Sp:=fun vs H Q E=>∃ (D:TD) (u kd:Str) (n:ND) (ys:List Str),vs = [.ref D.p,.str u,.str kd]/\TrOk C H D/\fndN D.ns u=some n/\Up D.ns u ys/\ys.length<=900/\(∀ H',Same H H'->¬ (kdOk kd/\n.ch≠none/\ys.length<=5)->Rs cP H' E)/\(∀ H',Same H H'->kdOk kd/\n.ch≠none/\ys.length<=5->Q .non H')
theorem zhu (T:Txt K mg c_NoName c_Taken c_NoClass c_NoPlace c_NoShare c_NoLength c_TooEarly c_NoneReady c_Members c_Chooser c_Starts c_Rounds c_Node c_Tree):MethD P w K mg base (CXX P w) 2 c_Tree "check_place" ["self", "under", "kind"] [[]] (spCP c_NoPlace (⟨c_Node,c_Starts,c_Rounds,c_Members,c_Node,c_Tree⟩:Cl)):=by
 have M_Tree_from_road:=zec (P:=P) (w:=w) (base:=base) T
 refine T.me_Tree_check_place.okX (k:=1) zgt (fun vs H Q E h=>?_) (fun f cdv A outer s H vs Q E hr h=>?_)
 ·obtain ⟨D,u,kd,n,ys,rfl,_⟩:=h
  rfl
 ·obtain ⟨D,u,kd,n,ys,rfl,O,hu,U,yl,kx,k⟩:=h
  obtain ⟨t_INNER_KINDS,h_INNER_KINDS,w_INNER_KINDS⟩:=T.mg_INNER_KINDS
  refine ⟨_,(zad (ps_if (PW.pt (zlc (zba op_ne (pv 2) (zgh rfl T.mg_LEAF) (zbk _)) (zji (zba (zni K rfl) (pv 2) (zlo (v:=.ref t_INNER_KINDS) rfl h_INNER_KINDS rfl) rfl)))) (zah (zcs K rfl rfl zek (zel T.ex_NoPlace T.kp_NoPlace rfl T.mg_NoPlace (zaa zbz zaf)))) zbb) (zad (ps_if (zba zoy (zaq (zdd (hu_of hr) (zaq (pv 0) rfl) (pv 1) (fun _ _=>rfl)) rfl) zdn (zbk _)) (zah (zcs K rfl rfl zek (zel T.ex_NoPlace T.kp_NoPlace rfl T.mg_NoPlace (zaa zbz zaf)))) zbb) (zah (ps_if (zba op_gt (zcq (zgc K rfl) rfl T.no_len boot_len (zaa (zar (dvs:=[]) M_Tree_from_road (by simp) T.cl_Tree (hr.mono (by decide)) passF (pv 0) (zaa (pv 1) zaf)) zaf)) (zjc rfl T.mg_LONGEST_WAY) (zbk _)) (zah (zcs K rfl rfl zek (zel T.ex_NoPlace T.kp_NoPlace rfl T.mg_NoPlace (zaa zbz zaf)))) zbb)))),?_⟩
  show tSeq _ _ _ [some (.ref D.p),some (.str u),some (.str kd)] H
  obtain ⟨dx,fs,hp,ft⟩:=O.ex
  obtain ⟨nin,_⟩:=zas hu
  obtain ⟨dn,fn,hnp,hft⟩:=(O.nd n nin).ex
  refine zae fun R hR=>?_
  walk_at "rd"
  have on:kdOk kd->R [some (.ref D.p),some (.str u),some (.str kd)] H:=fun ok=>hR _ _ (by
   clear hR
   refine zae fun R hR=>?_
   walk_at "rd"
   refine zaj hp T.cl_Tree T.na_Tree_nodes ft.no ?_
   walk_at "rd"
   refine ⟨_,nd_at O hu,?_⟩
   refine zaj hnp T.cl_Node T.na_Node_chooser hft.ch ?_
   cases hc:n.ch with
   | none =>
    walk_at "rd"
    exact rs_of (kx H (Same.refl _) fun q=>q.2.1 hc) T.xc_NoPlace
   | some c =>
    show R _ _
    refine hR _ _ ?_
    walk_at "rd"
    refine zav hp (miz ft _) ⟨D,u,ys,rfl,O,U,yl,fun l H' s' hl e=>?_⟩
    refine zpe (.of e) ⟨_,rfl,?_⟩
    rw [List.length_map,List.length_reverse]
    refine ite2 (fun c2=>rs_of (kx H' s' fun q=>by omega) T.xc_NoPlace) fun c2=>k H' s' ⟨ok,by rw [hc]; simp,by omega⟩)
  refine ite2 (fun c1=>on (.inl c1)) fun c1=>?_
  refine ⟨_,_,rfl,.inr (w_INNER_KINDS H),rfl,rfl,_,rfl,?_⟩
  rw [zps,if_pos rfl]
  by_cases c2:Inner kd
  ·rw [if_neg (by simp [c2])]
   exact on (.inr c2)
  ·rw [if_pos (by simp [c2])]
   exact rs_of (kx H (Same.refl _) fun q=>q.1.elim c1 c2) T.xc_NoPlace
def spTP (cN cT cC cP cS cL:Addr) (C:Cl):Sp:=fun vs H Q E=>∃ (D:TD) (x u kd:Str) (s:Int) (rm:V),vs = [.ref D.p,.str x,.str u,.str kd,.int s,rm]/\TrOk C H D/\D.Wf/\D.fit/\StOk 10000 x/\(rm = .non\/∃ r,rm = .int r) /\
 (∀ r,dueP D x u kd s rm=some r->∀ H',Same H H'->Rs (r.at cN cT cC cP cS cL) H' E) /\
 (dueP D x u kd s rm=none->∀ (un:ND) (c:At5×CSt) (n:ND) H',fndN D.ns u=some un->un.ch=some c->n.nm=x->n.ab=some u->n.rm=rm->n.bk=none->n.ps = []->n.qu = []->(kd=Str.ofString "leaf" -> n.ch=none)->(Inner kd->∃ a,n.ch=some (a,CSt.new (kdB kd)))->(∀ b∈n.foot,H b=none)->TrOk C H' (D.put un c s n)->Deed D.foot H H'->Q .non H')
theorem zqr (T:Txt K mg c_NoName c_Taken c_NoClass c_NoPlace c_NoShare c_NoLength c_TooEarly c_NoneReady c_Members c_Chooser c_Starts c_Rounds c_Node c_Tree):MethD P w K mg base (CXX P w) 7 c_Tree "put" ["self", "name", "under", "kind", "share", "room"] [[],[V.non]] (spTP c_NoName c_Taken c_NoClass c_NoPlace c_NoShare c_NoLength (⟨c_Node,c_Starts,c_Rounds,c_Members,c_Node,c_Tree⟩:Cl)):=by
  have D_is_name:=ztd (P:=P) (w:=w) (base:=base) T
  have M_Tree_check_place:=zhu (P:=P) (w:=w) (base:=base) T
  have D_check_share:=zfv (P:=P) (w:=w) (base:=base) T
  have M_Starts_put:=znv (P:=P) (w:=w) (base:=base) T
  have M_Rounds_put:=znx (P:=P) (w:=w) (base:=base) T
  have K_Node:=zvp (P:=P) (w:=w) (base:=base) T
  have D_chooser_of:=ziw (P:=P) (w:=w) (base:=base) T
  refine T.me_Tree_put.okX (k:=6) zon (fun vs H Q E h=>?_) (fun f cdv A outer s H vs Q E hr h=>?_)
  · obtain ⟨D,x,u,kd,s,rm,rfl,_⟩:=h
    rfl
  · obtain ⟨D,x,u,kd,s,rm,rfl,O,W,F,xl,hrm,kx,k⟩:=h
    refine ⟨_,(zad (ps_if (zir (zlb (zax D_is_name (hr.mono (by decide)) rfl passF (zaa (pv 1) zaf)))) (zah (zcs K rfl rfl zek (zel T.ex_NoName T.kp_NoName rfl T.mg_NoName (zaa zbz zaf)))) zbb) (zad (ps_if (zjh (zpl (hu_of hr) (pv 1) (zaq (pv 0) rfl))) (zah (zcs K rfl rfl zek (zel T.ex_Taken T.kp_Taken rfl T.mg_Taken (zaa zbz zaf)))) zbb) (zad (ps_if (zjh (zjr (hu_of hr) (pv 2) (zaq (pv 0) rfl))) (zah (zcs K rfl rfl zek (zel T.ex_NoClass T.kp_NoClass rfl T.mg_NoClass (zaa zbz zaf)))) zbb) (zad (zay (zar (dvs:=[]) M_Tree_check_place (by simp) T.cl_Tree (hr.mono (by decide)) passF (pv 0) (zaa (pv 2) (zaa (pv 3) zaf)))) (zad (zay (zax D_check_share (hr.mono (by decide)) rfl passF (zaa (pv 4) zaf))) (zad (ps_if (PW.pt (zlc (zba op_eq (pv 3) (zgh rfl T.mg_LEAF) (zbk _)) (zlc (zba zfq (pv 5) zdn (zbk _)) (zji (zba op_lt (pv 5) zam (zbk _)))))) (zah (zcs K rfl rfl zek (zel T.ex_NoLength T.kp_NoLength rfl T.mg_NoLength (zaa zbz zaf)))) zbb) (zad (zay (znk (zar (dvs:=[]) M_Starts_put (by simp) T.cl_Starts (hr.mono (by decide)) passF (zaq (zdd (hu_of hr) (zaq (pv 0) rfl) (pv 2) (fun _ _=>rfl)) rfl) (zaa (pv 1) (zaa (pv 4) zaf))) (zar (dvs:=[]) M_Rounds_put (by simp) T.cl_Rounds (hr.mono (by decide)) passF (zaq (zdd (hu_of hr) (zaq (pv 0) rfl) (pv 2) (fun _ _=>rfl)) rfl) (zaa (pv 1) (zaa (pv 4) zaf))))) (zah (zez (hu_of hr) (zaq (pv 0) rfl) (pv 1) (zhd (dvs:=[]) K_Node (by simp) (hr.mono (by decide)) passF rfl T.mg_Node (zaa (pv 2) (zaa (zax D_chooser_of (hr.mono (by decide)) rfl passF (zaa (pv 3) (zaa (zaq (pv 0) rfl) zaf))) (zaa (pv 5) zaf)))) rfl))))))))),?_⟩
    show tSeq _ _ _ [some (.ref D.p),some (.str x),some (.str u),some (.str kd),some (.int s),some rm] H
    refine zae fun R hR=>?_
    walk_at "rd"
    refine ⟨x,rfl,xl.2,fun H1 s1=>?_⟩
    by_cases c1:zej x
    case neg =>
      rw [decide_eq_false c1]
      walk_at "rd"
      exact rs_of (kx _ (zpt c1) H1 s1) T.xc_NoName
    rw [decide_eq_true c1]
    walk_at "rd"
    refine hR _ _ ?_
    clear hR
    have O1:=O.same s1
    obtain ⟨dx,fs,hp,ft⟩:=O1.ex
    refine zae fun R hR=>?_
    walk_at "rd"
    refine zaj hp T.cl_Tree T.na_Tree_nodes ft.no ?_
    walk_at "rd"
    refine ⟨_,DGet.k (k:=Sum.inr x) O1.hn,?_⟩
    rw [zjv]
    cases hx:fndN D.ns x with
    | some v =>
      exact rs_of (kx _ (znm c1 (by rw [hx]; simp)) H1 s1) T.xc_Taken
    | none =>
    refine hR _ _ ?_
    clear hR
    refine zae fun R hR=>?_
    walk_at "rd"
    refine zaj hp T.cl_Tree T.na_Tree_nodes ft.no ?_
    walk_at "rd"
    refine ⟨_,DGet.k (k:=Sum.inr u) O1.hn,?_⟩
    rw [zjv]
    cases hu:fndN D.ns u with
    | none =>
      exact rs_of (kx _ (zsm c1 hx hu) H1 s1) T.xc_NoClass
    | some un =>
    refine hR _ _ ?_
    clear hR
    obtain ⟨uin,une⟩:=zas hu
    obtain ⟨ys,U,yl⟩:=W.up un uin
    rw [une] at U
    refine zae fun R hR=>?_
    walk_at "rd"
    refine zav hp (miz ft _) ⟨D,u,kd,un,ys,rfl,O1,hu,U,by omega,fun H2 s2 bad=>?_,fun H2 s2 good=>hR _ _ ?_⟩
    · exact kx _ (znn c1 hx hu fun q=>bad ⟨q.1,q.2.1,q.2.2 ys U⟩) H2 (s1.trans s2)
    clear hR
    have gd:kdOk kd/\un.ch≠none/\∀ ys,Up D.ns u ys->ys.length<=5:=⟨good.1,good.2.1,fun zs z=>by rw [<- U.det z]; exact good.2.2⟩
    refine zae fun R hR=>?_
    walk_at "rd"
    refine ⟨s,rfl,fun c3=>hR _ _ ?_,fun c3=>kx _ (zno c1 hx hu gd c3) H2 (s1.trans s2)⟩
    clear hR
    have s12:=s1.trans s2
    have O2:=O.same s12
    clear hp ft dx fs O1 s1 s2
    refine zae fun R hR=>?_
    walk_at "rd"
    have post:¬ (kd=Str.ofString "leaf" /\ ∃ r:Int,rm = .int r/\r<0)->R [some (.ref D.p),some (.str x),some (.str u),some (.str kd),some (.int s),some rm] H2:=fun c4=>hR _ _ (by
      clear hR
      have k:=k (zlx c1 hx hu gd c3 c4)
      cases hc:un.ch with
      | none=>exact absurd hc gd.2.1
      | some c =>
      obtain ⟨dx,fs,hp,ft⟩:=O2.ex
      have N2:=O2.nd un uin
      obtain ⟨dn,fn,hnp,hft⟩:=N2.ex
      rw [hc] at hft
      have CS:=N2.ch c hc
      have cok:=W.cok un uin c hc
      have nx:shOf c.2.nm x=none:=by
        rw [Sw.sh_none,W.kid un uin c hc]
        intro z
        unfold kids at z
        obtain ⟨y,hy,e⟩:=List.mem_map.mp z
        exact fnd_none.mp hx (List.mem_map.mpr ⟨y,(List.mem_filter.mp hy).1,e⟩)
      have csz:=F.2 un uin c hc
      have fl:=F.1
      have kl:=W.kid_len uin hc
      obtain ⟨a,cs⟩:=c
      refine zae fun R hR=>?_
      have aft:∀ H3,Own a H2 H3->ChS c_Starts c_Rounds c_Members H3 a D.most (cs.put x s)->R [some (.ref D.p),some (.str x),some (.str u),some (.str kd),some (.int s),some rm] H3:=fun H3 ow C3=>hR _ _ (by
        clear hR
        have O3:=O2.chooser W.nn uin hc ow C3
        obtain ⟨d3,f3,hp3,ft3⟩:=O3.ex
        walk_at "rd"
        refine zaj hp3 T.cl_Tree T.na_Tree_most ft3.mo ?_
        walk_at "rd"
        have b3:∀ {b o},H b=some o->∃ o',H3 b=some o':=fun {b o} e=>by
          by_cases q:b∈five a
          · exact (C3.at q).imp fun _ z=>z.1
          · exact ⟨o,ow.deed _ _ q (s12 _ _ e)⟩
        have n3:∀ {b},H3 b=none->H b=none:=fun {b} e=>by
          cases z:H b with
          | none=>rfl
          | some o=>obtain ⟨o',z'⟩:=b3 z; rw [e] at z'; cases z'
        have hx3:fndN (setN D.ns { un with ch:=some (a,cs.put x s) }) x=none:=by
          rw [zie]
          split
          · rw [hx]; rfl
          · exact hx
        have fin:∀ (cho:Option (At5×CSt)) (H4:Hp),Same H3 H4->(∀ c,cho=some c->ChS c_Starts c_Rounds c_Members H4 c.1 D.most c.2/\∀ b∈five c.1,H3 b=none)->(kd=Str.ofString "leaf" -> cho=none)->(Inner kd->∃ a,cho=some (a,CSt.new (kdB kd)))->∀ y dy,H4 y=none->H4 dy=none ->
            spNI c_Node [V.ref y,V.str u,chV cho,rm] (upd (upd H4 dy (.own y)) y (.ins c_Node dy [])) (fun v H2=>v=V.non/\rFld K (Str.ofString "nodes") (V.ref D.p) H2 fun x3 H2=>∃ a,x3=V.ref a/\∃ x4,DPut H2 a (V.str x) (V.ref y) x4/\Q V.non x4) (fun v d H'=>E v d H'):=fun cho H4 s4 hch klf kin y dy hy hdy=>by
          refine ⟨y,dy,.str u,chV cho,rm,rfl,zac,fun ql fs H5 bt hq h1 h2 h3=>⟨rfl,?_⟩⟩
          obtain ⟨s5,N5,fd5,q4⟩:=NdOk.new (C:=(⟨c_Node,c_Starts,c_Rounds,c_Members,c_Node,c_Tree⟩:Cl)) (m:=D.most) (nm:=x) (ab:=some u) hy hdy bt hq h1 h2 h3 fun c e=>(hch c e).1
          have O5:=O3.same (s4.trans s5)
          obtain ⟨d5,f5,hp5,ft5⟩:=O5.ex
          have no4:∀ {b},H4 b=none->H3 b=none:=fun {b} e=>by
            cases z:H3 b with
            | none=>rfl
            | some o=>rw [s4 _ _ z] at e; cases e
          have fr:∀ b∈ND.foot ⟨x,y,ql,some u,cho,rm,none,[],[]⟩,H3 b=none:=fun b hb=>by
            unfold ND.foot at hb
            rcases List.mem_cons.mp hb with z | hb
            · rw [z]; exact no4 hy
            rcases List.mem_cons.mp hb with z | hb
            · rw [z]; exact no4 q4
            rcases List.mem_append.mp hb with z | z
            · cases cho with
              | none=>cases z
              | some c=>exact (hch c rfl).2 b z
            · cases z
          refine zaj hp5 T.cl_Tree T.na_Tree_nodes ft5.no ?_
          refine ⟨_,rfl,_,DPut.k (k:=Sum.inr x) O5.hn (zeq (by rw [zsk]; unfold setN; rw [List.length_map]; omega)),?_⟩
          have e5:=zwt (n:=⟨x,y,ql,some u,cho,rm,none,[],[]⟩) hx3
          rw [e5]
          refine k un (a,cs) ⟨x,y,ql,some u,cho,rm,none,[],[]⟩ _ hu hc rfl rfl rfl rfl rfl rfl klf kin (fun b hb=>n3 (fr b hb)) (O3.snoc (s4.trans s5) N5 fd5 fr) fun b o nb e=>?_
          rw [zai (fun z=>nb (by rw [z]; exact List.mem_cons_of_mem _ (List.mem_cons_self ..)))]
          refine s5 _ _ (s4 _ _ (ow.deed _ _ (fun z=>nb (TD.mem_node uin ?_)) (s12 _ _ e)))
          unfold ND.foot
          rw [hc]
          exact List.mem_cons_of_mem _ (List.mem_cons_of_mem _ (List.mem_append.mpr (.inl z)))
        refine ⟨kd,D.most,rfl,W.m1.1,fun ik a' H4 s4 na C4 y dy hy hdy _=>fin (some (a',CSt.new (kdB kd))) H4 s4 (fun c e=>?_) (fun e=>?_) (fun _=>⟨a',rfl⟩) y dy hy hdy,fun nk y dy hy hdy _=>fin none H3 (Same.refl _) (fun c e=>by cases e) (fun _=>rfl) (fun z=>absurd z nk) y dy hy hdy⟩
        · cases e; exact ⟨C4,na⟩
        · subst e
          exact absurd ik (by decide +kernel))
      clear hR
      walk_at "rd"
      cases cs with
      | st nm tg gs ck ch N =>
        refine .inl ?_
        walk_at "rd"
        refine zaj hp T.cl_Tree T.na_Tree_nodes ft.no ?_
        walk_at "rd"
        refine ⟨_,nd_at O2 hu,?_⟩
        refine zaj hnp T.cl_Node T.na_Node_chooser hft.ch ?_
        have S:Sx c_Starts c_Members H2 a D.most nm tg gs ck ch N:=CS
        obtain ⟨dx',fs',pr,hp',ft',hr'⟩:=S.ex
        refine zav hp' (ft'.no _ (by decide +kernel) (by decide +kernel) (by decide +kernel) (by decide +kernel) (by decide +kernel) (by decide +kernel)) ⟨a,D.most,nm,tg,gs,ck,ch,N,x,s,rfl,S,?_,fun z=>absurd nx z,fun _ z=>absurd c3 z,fun _ _ H3 ow S'=>aft H3 ow S'⟩
        have:N<=800:=csz
        omega
      | rd nm q rs tu ch =>
        refine .inr ?_
        walk_at "rd"
        refine zaj hp T.cl_Tree T.na_Tree_nodes ft.no ?_
        walk_at "rd"
        refine ⟨_,nd_at O2 hu,?_⟩
        refine zaj hnp T.cl_Node T.na_Node_chooser hft.ch ?_
        have S:Rx c_Rounds c_Members H2 a D.most nm q rs tu ch:=CS
        refine S.meth (by decide +kernel) ⟨a,D.most,nm,q,rs,tu,ch,x,s,rfl,S,cok.2,?_,fun z=>absurd nx z,fun _ z=>absurd c3 z,fun _ _ H3 ow S'=>aft H3 ow S'⟩
        have:nm.length<=D.ns.length:=kl
        omega)
    clear hR
    refine ite2 (fun c4=>ite2 (fun c5=>post fun q=>?_) fun c5=>?_) fun c4=>post fun q=>c4 q.1
    · obtain ⟨r,e,_⟩:=q.2
      rw [c5] at e; cases e
    · obtain ⟨r,e⟩:=hrm.resolve_left c5
      refine ⟨r,e,ite2 (fun c6=>rs_of (kx _ (zqo c1 hx hu gd c3 ⟨c4,r,e,c6⟩) H2 s12) T.xc_NoLength) fun c6=>post fun q=>?_⟩
      obtain ⟨r',e',h'⟩:=q.2
      rw [e] at e'; cases e'
      exact c6 h'
def spTI (cL cP:Addr) (C:Cl):Sp:=fun vs H Q E=>∃ (x dx:Addr) (m:Int) (kd:Str),vs = [.ref x,.int m,.str kd]/\H x=some (.ins C.t dx [])/\(¬ (1<=m/\m<=1000000)->Rs cL H E)/\(1<=m/\m<=1000000->¬ Inner kd->Rs cP H E) /\
 (1<=m/\m<=1000000->Inner kd->∀ (pn pg:Addr) (n:ND) (a:At5) H',n = ⟨road,n.p,n.ql,none,some (a,CSt.new (kdB kd)),.non,none,[],[]⟩->But x H H'->(∀ b∈TD.foot ⟨x,pn,pg,m,0,0,0,[n],[],[]⟩,b=x\/H b=none)->TrOk C H' ⟨x,pn,pg,m,0,0,0,[n],[],[]⟩->Q .non H')
theorem zzo (T:Txt K mg c_NoName c_Taken c_NoClass c_NoPlace c_NoShare c_NoLength c_TooEarly c_NoneReady c_Members c_Chooser c_Starts c_Rounds c_Node c_Tree):MkD P w K mg base (CXX P w) 7 c_Tree ["self", "most", "kind"] [[],[V.str (Str.ofString "starts")]] (spTI c_NoLength c_NoPlace (⟨c_Node,c_Starts,c_Rounds,c_Members,c_Node,c_Tree⟩:Cl)):=by
 have D_check_most:=ziv (P:=P) (w:=w) (base:=base) T
 have D_chooser_of:=ziw (P:=P) (w:=w) (base:=base) T
 have K_Node:=zvp (P:=P) (w:=w) (base:=base) T
 refine T.in_Tree.okX (k:=6) zns (fun vs H Q E h=>?_) (fun f cdv A outer s H vs Q E hr h=>?_)
 ·obtain ⟨x,dx,m,kd,rfl,_⟩:=h
  rfl
 ·obtain ⟨x,dx,m,kd,rfl,hx,kl,kp,k⟩:=h
  obtain ⟨t_INNER_KINDS,h_INNER_KINDS,w_INNER_KINDS⟩:=T.mg_INNER_KINDS
  refine ⟨_,(zad (zay (zax D_check_most (hr.mono (by decide)) rfl passF (zaa (pv 1) zaf))) (zad (ps_if (zba (zni K rfl) (pv 2) (zlo (v:=.ref t_INNER_KINDS) rfl h_INNER_KINDS rfl) rfl) (zah (zcs K rfl rfl zek (zel T.ex_NoPlace T.kp_NoPlace rfl T.mg_NoPlace (zaa zbz zaf)))) zbb) (zad (zcg (pv 0) (pv 1) rfl) (zad (zcg (pv 0) (zwo (zua (zgh rfl T.mg_ROAD) (zhd (dvs:=[V.non]) K_Node (by simp) (hr.mono (by decide)) passF rfl T.mg_Node (zaa zdn (zaa (zax D_chooser_of (hr.mono (by decide)) rfl passF (zaa (pv 2) (zaa (pv 1) zaf))) zaf))) zwn) rfl rfl (by intro z; cases z) (by decide)) rfl) (zad (zcg (pv 0) zam rfl) (zad (zcg (pv 0) zam rfl) (zad (zcg (pv 0) zam rfl) (zah (zcg (pv 0) (zgl zaf) rfl))))))))),?_⟩
  show tSeq _ _ _ [some (.ref x),some (.int m),some (.str kd)] H
  refine zae fun R hR=>?_
  walk_at "rd"
  refine ⟨m,rfl,fun c1=>hR _ _ ?_,kl⟩
  clear hR
  refine zae fun R hR=>?_
  walk_at "rd"
  refine ⟨_,_,rfl,.inr (w_INNER_KINDS H),rfl,rfl,_,rfl,?_⟩
  rw [zps,if_pos rfl]
  by_cases c2:Inner kd
  case neg =>
   rw [if_pos (by simp [c2])]
   exact rs_of (kp c1 c2) T.xc_NoPlace
  rw [if_neg (by simp [c2])]
  refine hR _ _ ?_
  clear hR
  have k:=k c1 c2
  have l1:=zao (fs:=[]) (f := "most") (v:=.int m)
  simp only [List.length_nil] at l1
  refine zae fun R hR=>?_
  walk_at "rd"
  refine zch hx T.cl_Tree T.na_Tree_most (by simp) (hR _ _ ?_)
  clear hR
  have h1:upd H x (.ins c_Tree dx (putF "most" (.int m) [])) x=some (.ins c_Tree dx (putF "most" (.int m) [])):=zac
  have b1:But x H (upd H x (.ins c_Tree dx (putF "most" (.int m) []))):=zib
  have n1:∀ {b},upd H x (.ins c_Tree dx (putF "most" (.int m) [])) b=none->H b=none:=fun {b} e=>by
   by_cases z:b=x
   ·rw [z,zac] at e; cases e
   ·rw [zai z] at e; exact e
  show tSeq _ _ _ _ (upd H x (.ins c_Tree dx (putF "most" (.int m) [])))
  generalize upd H x (.ins c_Tree dx (putF "most" (.int m) []))=H1 at h1 b1 n1 ⊢
  refine zae fun R hR=>?_
  walk_at "rd"
  unfold tDisp
  intro pn hpn
  unfold zng zng
  walk_at "rd"
  have s2:=zap (o:=.dK []) hpn
  have h2:upd H1 pn (.dK []) pn=some (.dK []):=zac
  generalize upd H1 pn (.dK [])=H2 at s2 h2 ⊢
  refine ⟨kd,m,rfl,c1.1,fun _ a H3 s3 na C3 y dy hy hdy _=>?_,fun z=>absurd c2 z⟩
  refine ⟨y,dy,.non,.ref a.p,.non,rfl,zac,fun ql fs H4 bt hq h4 f4 q4=>⟨rfl,?_⟩⟩
  obtain ⟨s4,N4,fd4,q3⟩:=NdOk.new (C:=(⟨c_Node,c_Starts,c_Rounds,c_Members,c_Node,c_Tree⟩:Cl)) (m:=m) (nm:=road) (ab:=none) (ch:=some (a,CSt.new (kdB kd))) (rm:=.non) hy hdy bt hq h4 f4 q4 fun c e=>by cases e; exact C3
  refine ⟨s4 _ _ (s3 _ _ h2),[((Sum.inr road:Key),V.ref y)],rfl,by simp,?_⟩
  have fr2:∀ b∈ND.foot ⟨road,y,ql,none,some (a,CSt.new (kdB kd)),.non,none,[],[]⟩,H2 b=none:=fun b hb=>by
   have no3:∀ {b},H3 b=none->H2 b=none:=fun {b} e=>by
    cases z:H2 b with
    | none=>rfl
    | some o=>rw [s3 _ _ z] at e; cases e
   unfold ND.foot at hb
   rcases List.mem_cons.mp hb with z | hb
   ·rw [z]; exact no3 hy
   rcases List.mem_cons.mp hb with z | hb
   ·rw [z]; exact no3 q3
   rcases List.mem_append.mp hb with z | z
   ·exact na b z
   ·cases z
  have s14:Same H1 H4:=s2.trans (s3.trans s4)
  have no2:∀ {b},H2 b=none->H1 b=none:=fun {b} e=>by
   cases z:H1 b with
   | none=>rfl
   | some o=>rw [s2 _ _ z] at e; cases e
  have xpn:x≠pn:=zan h1 hpn
  have h5:upd H4 pn (.dK (zgm [] [((Sum.inr road:Key),V.ref y)])) pn=some (.dK (ndK [⟨road,y,ql,none,some (a,CSt.new (kdB kd)),.non,none,[],[]⟩])):=zac
  have x5:upd H4 pn (.dK (zgm [] [((Sum.inr road:Key),V.ref y)])) x=some (.ins c_Tree dx (putF "most" (.int m) [])):=by rw [zai xpn]; exact s14 _ _ h1
  have k5:∀ b o,b≠pn->H4 b=some o->upd H4 pn (.dK (zgm [] [((Sum.inr road:Key),V.ref y)])) b=some o:=fun b o q e=>by rw [zai q]; exact e
  have o5:∀ b,upd H4 pn (.dK (zgm [] [((Sum.inr road:Key),V.ref y)])) b=none->H4 b=none:=fun b e=>by
   by_cases z:b=pn
   ·rw [z,zac] at e; cases e
   ·rw [zai z] at e; exact e
  have pn4:=s4 _ _ (s3 _ _ h2)
  generalize upd H4 pn (.dK (zgm [] [((Sum.inr road:Key),V.ref y)]))=H5 at h5 x5 k5 o5 ⊢
  have l2:=zao (fs:=putF "most" (.int m) []) (f := "nodes") (v:=.ref pn)
  have l3:=zao (fs:=putF "nodes" (.ref pn) (putF "most" (.int m) [])) (f := "time") (v:=.int 0)
  have l4:=zao (fs:=putF "time" (.int 0) (putF "nodes" (.ref pn) (putF "most" (.int m) []))) (f := "free") (v:=.int 0)
  have l5:=zao (fs:=putF "free" (.int 0) (putF "time" (.int 0) (putF "nodes" (.ref pn) (putF "most" (.int m) [])))) (f := "counted") (v:=.int 0)
  refine zch x5 T.cl_Tree T.na_Tree_nodes (by omega) (hR _ _ ?_)
  clear hR
  refine zae fun R hR=>?_
  walk_at "rd"
  refine zch zac T.cl_Tree T.na_Tree_time (by omega) (hR _ _ ?_)
  clear hR
  rw [zex]
  refine zae fun R hR=>?_
  walk_at "rd"
  refine zch zac T.cl_Tree T.na_Tree_free (by omega) (hR _ _ ?_)
  clear hR
  rw [zex]
  refine zae fun R hR=>?_
  walk_at "rd"
  refine zch zac T.cl_Tree T.na_Tree_counted (by omega) (hR _ _ ?_)
  clear hR
  rw [zex]
  walk_at "rd"
  intro pg hpg
  have xg:pg≠x:=fun z=>by rw [z,zac] at hpg; cases hpg
  have g5:H5 pg=none:=by rw [zai xg] at hpg; exact hpg
  have g4:=o5 _ g5
  have ng:pn≠pg:=zan pn4 g4
  refine zch (by rw [zai (Ne.symm xg),zac]) T.cl_Tree T.na_Tree_gone (by omega) ?_
  have kp:∀ {b o},b≠x->b≠pg->H5 b=some o->upd (upd (upd H5 x (.ins c_Tree dx (putF "counted" (.int 0) (putF "free" (.int 0) (putF "time" (.int 0) (putF "nodes" (.ref pn) (putF "most" (.int m) []))))))) pg (.lst [])) x (.ins c_Tree dx (putF "gone" (.ref pg) (putF "counted" (.int 0) (putF "free" (.int 0) (putF "time" (.int 0) (putF "nodes" (.ref pn) (putF "most" (.int m) []))))))) b=some o:=fun {b o} q1 q2 e=>by rw [zai q1,zai q2,zai q1]; exact e
  have hg:upd (upd (upd H5 x (.ins c_Tree dx (putF "counted" (.int 0) (putF "free" (.int 0) (putF "time" (.int 0) (putF "nodes" (.ref pn) (putF "most" (.int m) []))))))) pg (.lst [])) x (.ins c_Tree dx (putF "gone" (.ref pg) (putF "counted" (.int 0) (putF "free" (.int 0) (putF "time" (.int 0) (putF "nodes" (.ref pn) (putF "most" (.int m) []))))))) pg=some (.lst []):=by rw [zai xg,zac]
  have hf:upd (upd (upd H5 x (.ins c_Tree dx (putF "counted" (.int 0) (putF "free" (.int 0) (putF "time" (.int 0) (putF "nodes" (.ref pn) (putF "most" (.int m) []))))))) pg (.lst [])) x (.ins c_Tree dx (putF "gone" (.ref pg) (putF "counted" (.int 0) (putF "free" (.int 0) (putF "time" (.int 0) (putF "nodes" (.ref pn) (putF "most" (.int m) []))))))) x=some (.ins c_Tree dx (putF "gone" (.ref pg) (putF "counted" (.int 0) (putF "free" (.int 0) (putF "time" (.int 0) (putF "nodes" (.ref pn) (putF "most" (.int m) []))))))):=zac
  generalize upd (upd (upd H5 x (.ins c_Tree dx (putF "counted" (.int 0) (putF "free" (.int 0) (putF "time" (.int 0) (putF "nodes" (.ref pn) (putF "most" (.int m) []))))))) pg (.lst [])) x (.ins c_Tree dx (putF "gone" (.ref pg) (putF "counted" (.int 0) (putF "free" (.int 0) (putF "time" (.int 0) (putF "nodes" (.ref pn) (putF "most" (.int m) [])))))))=Hf at kp hg hf ⊢
  have bx:∀ {b},H2 b=none->b≠x:=fun {b} e z=>by rw [z,s2 _ _ h1] at e; cases e
  have bn:∀ {b},H2 b=none->b≠pn:=fun {b} e z=>by rw [z,h2] at e; cases e
  have k4:∀ {b o},b≠x->b≠pn->H4 b=some o->Hf b=some o:=fun {b o} q1 q2 e=>kp q1 (zan e g4) (k5 b o q2 e)
  refine k pn pg ⟨road,y,ql,none,some (a,CSt.new (kdB kd)),.non,none,[],[]⟩ a Hf rfl (fun b o nb e=>?_) (fun b hb=>?_) ⟨⟨dx,_,hf,FTr.mk0 ..⟩,kp xpn.symm ng h5,fun z hz=>?_,hg,.nil,?_⟩
  ·have e1:=b1 b o nb e
   exact k4 nb (zan e1 hpn) (s14 _ _ e1)
  ·unfold TD.foot at hb
   rcases List.mem_cons.mp hb with z | hb
   ·exact .inl z
   rcases List.mem_cons.mp hb with z | hb
   ·rw [z]; exact .inr (n1 hpn)
   rcases List.mem_cons.mp hb with z | hb
   ·rw [z]
    refine .inr (n1 ?_)
    cases z:H1 pg with
    | none=>rfl
    | some o=>rw [s14 _ _ z] at g4; cases g4
   obtain ⟨w,hw,z⟩:=List.mem_flatMap.mp hb
   rw [List.mem_singleton.mp hw] at z
   exact .inr (n1 (no2 (fr2 b z)))
  ·rw [List.mem_singleton.mp hz]
   refine N4.keep fun b o hb e=>?_
   rcases hb with q | ⟨xs,q⟩
   ·exact k4 (bx (fr2 b q)) (bn (fr2 b q)) e
   ·exact k4 (fun w=>by rw [w,s14 _ _ h1] at q; cases q) (fun w=>by rw [w,pn4] at q; cases q) e
  ·show (x :: pn :: pg :: ([⟨road,y,ql,none,some (a,CSt.new (kdB kd)),.non,none,[],[]⟩]:List ND).flatMap ND.foot).Nodup
   rw [List.flatMap_cons,List.flatMap_nil,List.append_nil]
   simp only [List.nodup_cons,List.mem_cons,not_or]
   refine ⟨⟨xpn,Ne.symm xg,fun z=>bx (fr2 _ z) rfl⟩,⟨ng,fun z=>bn (fr2 _ z) rfl⟩,fun z=>?_,fd4⟩
   obtain ⟨o,ho,_⟩:=N4.at z
   rw [g4] at ho; cases ho
theorem zux {l D:Addr} {ps:List Addr} {gs:List D2} {H:Hp} {Q:VK} {te:TE} (pr:D2->Int) (R:Gos H l ps gs) (hD:H D=none) (ng:ps.length<=900) (ht:∀ (g:D2) (H':Hp) (Z:VK),Z (.int (pr g)) H'->te [some (.int g.1),some (.int g.2)] H' Z) (k:∀ H',Same H H'->H' D=some (.lst ((gs.map pr).map V.int))->Q (.ref D) H'):CompG (Itl K l) (gTup K 2 (gCons (gName 0) (gCons (gName 1) gNil))) tYes te D [none,none] (upd H D (.lst [])) Q:=by
 have lg:=R.r.len
 refine zei (xs:=ps.map V.ref) (fun i τ H'=>(∃ v0 v1,τ = [v0,v1])/\Same H H'/\H' D=some (.lst (((gs.take i).map pr).map V.int))) ⟨⟨none,none,rfl⟩,zap hD,zac⟩ (fun i τ H' _ h=>.of (h.2.1 _ _ R.hl)) ?_ ?_
 ·rintro i x τ H' hx ⟨⟨v0,v1,rfl⟩,s',hDl⟩
  rw [List.getElem?_map] at hx
  cases e:ps[i]? with
  | none=>rw [e] at hx; cases hx
  | some p =>
   rw [e] at hx
   cases hx
   obtain ⟨g,hg,hp⟩:=R.r.get e
   refine ⟨p,_,rfl,.of (s' _ _ hp),rfl,_,_,rfl,_,_,rfl,rfl,?_⟩
   show tYes [some (.int g.1),some (.int g.2)] H' _
   unfold tYes
   refine ht g H' _ ?_
   refine ⟨_,hDl,zeq ?_,⟨_,_,rfl⟩,fun b o e=>?_,?_⟩
   ·rw [List.length_map,List.length_map,List.length_take]; omega
   ·rw [zai (zan e hD)]; exact s' _ _ e
   ·rw [zac,zeb hg,List.map_append,List.map_append]; rfl
 ·rintro τ H' ⟨_,s',hDl⟩
  rw [List.length_map,lg,List.take_length] at hDl
  exact k H' s' hDl
def roomB (rm:V) (qu:List D2) (len:Int):Bool:=match rm with
 | .int r=>decide ((qu.map (·.2)).sum+len<=r)
 | _=>true
def spHR (C:Cl):Sp:=fun vs H Q _=>∃ (n:ND) (m len:Int),vs = [.ref n.p,.int len]/\NdOk C H m n/\n.ps.length<=900/\(n.rm = .non\/∃ r,n.rm = .int r)/\∀ H',Same H H'->Q (.bl (roomB n.rm n.qu len)) H'
theorem zgy (T:Txt K mg c_NoName c_Taken c_NoClass c_NoPlace c_NoShare c_NoLength c_TooEarly c_NoneReady c_Members c_Chooser c_Starts c_Rounds c_Node c_Tree):MethD P w K mg base (CXX P w) 1 c_Node "has_room_for" ["self", "length"] [[]] (spHR (⟨c_Node,c_Starts,c_Rounds,c_Members,c_Node,c_Tree⟩:Cl)):=by
 refine T.me_Node_has_room_for.okN (k:=0) zgk (fun vs H Q E h=>?_) (fun f cdv A outer s H vs Q E hr h=>?_)
 ·obtain ⟨n,m,len,rfl,_⟩:=h
  rfl
 ·obtain ⟨n,m,len,rfl,N,nl,hrm,k⟩:=h
  refine ⟨_,(zah (zbd (pe_or (zgo zoy (zaq (pv 0) rfl) zdn (zbk _)) (zuy (zgo op_le (pe_op zfd (zcq (zna K rfl rfl) rfl T.no_sum boot_sum (zaa (pe_lc ["number", "each"] [] rfl (by with_unfolding_all rfl) (by decide +kernel) rfl (by decide +kernel) (by exact True.intro) (by with_unfolding_all rfl) True.intro (zcr K rfl (zaq (pv 0) rfl)) (fun _ _ _=>(zia (n:=2) K rfl rfl (zde (zbm (i:=0) (show (["number", "each"]:List Str).Nodup from by decide +kernel) rfl (by first|left;rfl|right;rfl)) (zde (zbm (i:=1) (show (["number", "each"]:List Str).Nodup from by decide +kernel) rfl (by first|left;rfl|right;rfl)) zhy)))) (fun _ _ _=>zfs) (fun _ _ _=>(pv 1))) zaf)) (pv 1)) (zaq (pv 0) rfl) (zbk _)))))),?_⟩
  show tRet _ _ [some (.ref n.p),some (.int len)] H
  obtain ⟨dn,fn,hnp,hft⟩:=N.ex
  walk_at "rd"
  refine zaj hnp T.cl_Node T.na_Node_room hft.rm ?_
  rcases hrm with z | ⟨r,z⟩
  ·rw [z] at k ⊢
   exact ite2 (fun _=>k H (Same.refl _)) fun y=>absurd rfl y
  ·rw [z] at k hft ⊢
   refine ite2 (fun y=>by cases y) fun _=>?_
   refine zaj hnp T.cl_Node T.na_Node_queue hft.qu ?_
   walk_at "rd"
   refine ⟨⟨_,.of N.qu.hl⟩,fun D hD=>?_⟩
   refine zux (·.2) N.qu hD nl (fun g H' Z q=>⟨_,rfl,q⟩) fun H' s' hDl=>?_
   refine ⟨D,_,rfl,.of hDl,_,rfl,?_⟩
   refine zaj (s' _ _ hnp) T.cl_Node T.na_Node_room hft.rm ⟨_,rfl,?_⟩
   exact k H' s'
def spCL (cC cP:Addr) (C:Cl):Sp:=fun vs H Q E=>∃ (D:TD) (x:Str),vs = [.ref D.p,.str x]/\TrOk C H D/\(x=road\/fndN D.ns x=none->Rs cC H E)/\(x≠road->∀ n,fndN D.ns x=some n->n.ch≠none->Rs cP H E)/\(x≠road->∀ n,fndN D.ns x=some n->n.ch=none->Q .non H)
theorem zim (T:Txt K mg c_NoName c_Taken c_NoClass c_NoPlace c_NoShare c_NoLength c_TooEarly c_NoneReady c_Members c_Chooser c_Starts c_Rounds c_Node c_Tree):MethD P w K mg base (CXX P w) 2 c_Tree "check_leaf" ["self", "name"] [[]] (spCL c_NoClass c_NoPlace (⟨c_Node,c_Starts,c_Rounds,c_Members,c_Node,c_Tree⟩:Cl)):=by
 have M_Tree_check_class:=zht (P:=P) (w:=w) (base:=base) T
 refine T.me_Tree_check_leaf.okX (k:=1) zhp (fun vs H Q E h=>?_) (fun f cdv A outer s H vs Q E hr h=>?_)
 ·obtain ⟨D,x,rfl,_⟩:=h
  rfl
 ·obtain ⟨D,x,rfl,O,kc,kp,k⟩:=h
  refine ⟨_,(zad (zay (zar (dvs:=[]) M_Tree_check_class (by simp) T.cl_Tree (hr.mono (by decide)) passF (pv 0) (zaa (pv 1) zaf))) (zah (ps_if (zba zfq (zaq (zdd (hu_of hr) (zaq (pv 0) rfl) (pv 1) (fun _ _=>rfl)) rfl) zdn (zbk _)) (zah (zcs K rfl rfl zek (zel T.ex_NoPlace T.kp_NoPlace rfl T.mg_NoPlace (zaa zbz zaf)))) zbb))),?_⟩
  show tSeq _ _ _ [some (.ref D.p),some (.str x)] H
  obtain ⟨dx,fs,hp,ft⟩:=O.ex
  refine zae fun R hR=>?_
  walk_at "rd"
  refine zav hp (miz ft _) ⟨D,x,rfl,O,fun c1 c2=>hR _ _ ?_,kc⟩
  cases hx:fndN D.ns x with
  | none=>exact absurd hx c2
  | some n =>
  obtain ⟨dn,fn,hnp,hft⟩:=(O.nd n (zas hx).1).ex
  walk_at "rd"
  refine zaj hp T.cl_Tree T.na_Tree_nodes ft.no ?_
  walk_at "rd"
  refine ⟨_,nd_at O hx,?_⟩
  refine zaj hnp T.cl_Node T.na_Node_chooser hft.ch ?_
  cases hc:n.ch with
  | none=>exact k c1 n hx hc
  | some c=>exact rs_of (kp c1 n hx (by rw [hc]; simp)) T.xc_NoPlace
def spNow (C:Cl):Sp:=fun vs H Q _=>∃ (D:TD),vs = [.ref D.p]/\TrOk C H D/\Q (.int D.tm) H
theorem zqs (T:Txt K mg c_NoName c_Taken c_NoClass c_NoPlace c_NoShare c_NoLength c_TooEarly c_NoneReady c_Members c_Chooser c_Starts c_Rounds c_Node c_Tree):MethD P w K mg base (CXX P w) 1 c_Tree "now" ["self"] [[]] (spNow (⟨c_Node,c_Starts,c_Rounds,c_Members,c_Node,c_Tree⟩:Cl)):=by
 refine T.me_Tree_now.okN (k:=0) zoo (fun vs H Q E h=>?_) (fun f cdv A outer s H vs Q E hr h=>?_)
 ·obtain ⟨D,rfl,_⟩:=h
  rfl
 ·obtain ⟨D,rfl,O,k⟩:=h
  refine ⟨_,(zah (zbd (zaq (pv 0) rfl))),?_⟩
  show tRet _ _ [some (.ref D.p)] H
  obtain ⟨dx,fs,hp,ft⟩:=O.ex
  walk_at "rd"
  exact zaj hp T.cl_Tree T.na_Tree_time ft.ti k
def TD.come (D:TD) (n:ND) (q:Addr) (len:Int):TD:={ D with ct:=D.ct+1,ns:=setN D.ns { n with ps:=n.ps++[q],qu:=n.qu++[(D.ct,len)] } }
def zzp (cC cP cL:Addr) (C:Cl):Sp:=fun vs H Q E=>∃ (D:TD) (x:Str) (len:Int),vs = [.ref D.p,.str x,.int len]/\TrOk C H D/\D.Wf/\(∀ n∈D.ns,n.ps.length<=890/\(n.rm = .non\/∃ r,n.rm = .int r))/\(x=road\/fndN D.ns x=none->Rs cC H E)/\(x≠road->∀ n,fndN D.ns x=some n->n.ch≠none->Rs cP H E)/\(x≠road->∀ n,fndN D.ns x=some n->n.ch=none->(¬ (1<=len/\len<=D.most)->Rs cL H E)/\(1<=len/\len<=D.most->(roomB n.rm n.qu len=false->∀ H',Same H H'->Q .non H')/\(roomB n.rm n.qu len=true->∀ q H',H q=none->TrOk C H' (TD.come D n q len)->Deed D.foot H H'->Q (.int D.ct) H')))
theorem zkl (T:Txt K mg c_NoName c_Taken c_NoClass c_NoPlace c_NoShare c_NoLength c_TooEarly c_NoneReady c_Members c_Chooser c_Starts c_Rounds c_Node c_Tree):MethD P w K mg base (CXX P w) 3 c_Tree "come" ["self", "name", "length"] [[]] (zzp c_NoClass c_NoPlace c_NoLength (⟨c_Node,c_Starts,c_Rounds,c_Members,c_Node,c_Tree⟩:Cl)):=by
 have M_Tree_check_leaf:=zim (P:=P) (w:=w) (base:=base) T
 have M_Node_has_room_for:=zgy (P:=P) (w:=w) (base:=base) T
 refine T.me_Tree_come.okX (k:=2) sc_Tree_come (fun vs H Q E h=>?_) (fun f cdv A outer s H vs Q E hr h=>?_)
 ·obtain ⟨D,x,len,rfl,_⟩:=h
  rfl
 ·obtain ⟨D,x,len,rfl,O,W,ql,kc,kp,k⟩:=h
  refine ⟨_,(zad (zay (zar (dvs:=[]) M_Tree_check_leaf (by simp) T.cl_Tree (hr.mono (by decide)) passF (pv 0) (zaa (pv 1) zaf))) (zad (ps_if (zir (zlp op_le op_le zam (pv 2) (zaq (pv 0) rfl))) (zah (zcs K rfl rfl zek (zel T.ex_NoLength T.kp_NoLength rfl T.mg_NoLength (zaa zbz zaf)))) zbb) (zad (ps_if (zir (zlb (zar (dvs:=[]) M_Node_has_room_for (by simp) T.cl_Node (hr.mono (by decide)) passF (zdd (hu_of hr) (zaq (pv 0) rfl) (pv 1) (fun _ _=>rfl)) (zaa (pv 2) zaf)))) (zah (zbd zdn)) zbb) (zad (zbc (i:=3) sc_Tree_come.nd rfl (by first|left;rfl|right;rfl) (zaq (pv 0) rfl)) (zad (zcg (pv 0) (pe_op zfd (pv 3) zam) rfl) (zad (zay (pe_bm PySem.F.plainAttrs_list PySem.F.slot_list_append PySem.F.type_list_append zdo (zaq (zdd (hu_of hr) (zaq (pv 0) rfl) (pv 1) (fun _ _=>rfl)) rfl) (zaa (zfz (zaa (pv 3) (zaa (pv 2) zaf))) zaf))) (zah (zbd (pv 3))))))))),?_⟩
  show tSeq _ _ _ [some (.ref D.p),some (.str x),some (.int len),none] H
  obtain ⟨dx,fs,hp,ft⟩:=O.ex
  refine zae fun R hR=>?_
  walk_at "rd"
  refine zav hp (miz ft _) ⟨D,x,rfl,O,kc,kp,fun c1 n hx hc=>hR _ _ ?_⟩
  clear hR
  obtain ⟨kl,k⟩:=k c1 n hx hc
  obtain ⟨nin,ne⟩:=zas hx
  have N:=O.nd n nin
  obtain ⟨dn,fn,hnp,hft⟩:=N.ex
  obtain ⟨ql1,ql2⟩:=ql n nin
  refine zae fun R hR=>?_
  walk_at "rd"
  have post:1<=len/\len<=D.most->R [some (.ref D.p),some (.str x),some (.int len),none] H:=fun c2=>hR _ _ (by
   clear hR
   obtain ⟨kn,k⟩:=k c2
   refine zae fun R hR=>?_
   walk_at "rd"
   refine zaj hp T.cl_Tree T.na_Tree_nodes ft.no ?_
   walk_at "rd"
   refine ⟨_,nd_at O hx,?_⟩
   refine zav hnp (hft.no _ (by decide +kernel) (by decide +kernel) (by decide +kernel) (by decide +kernel) (by decide +kernel)) ⟨n,D.most,len,rfl,N,by omega,ql2,fun H1 s1=>?_⟩
   cases hb:roomB n.rm n.qu len with
   | false =>
    walk_at "rd"
    exact kn hb H1 s1
   | true =>
    walk_at "rd"
    refine hR _ _ ?_
    clear hR
    have k:=k hb
    have O1:=O.same s1
    obtain ⟨dx,fs,hp,ft⟩:=O1.ex
    refine zae fun R hR=>?_
    walk_at "rd"
    refine zaj hp T.cl_Tree T.na_Tree_counted ft.co (hR _ _ ?_)
    clear hR
    refine zae fun R hR=>?_
    walk_at "rd"
    refine zch hp T.cl_Tree T.na_Tree_counted (by have:=ft.len; omega) (hR _ _ ?_)
    clear hR
    have O2:=O1.field hp (ft.put_co (ct':=D.ct+1))
    have kp2:∀ b o,b≠D.p->H1 b=some o->upd H1 D.p (.ins c_Tree dx (putF "counted" (.int (D.ct+1)) fs)) b=some o:=fun b o q e=>by rw [zai q]; exact e
    have n2:∀ b,upd H1 D.p (.ins c_Tree dx (putF "counted" (.int (D.ct+1)) fs)) b=none->H b=none:=fun b e=>by
     by_cases z:b=D.p
     ·rw [z,zac] at e; cases e
     ·rw [zai z] at e
      cases y:H b with
      | none=>rfl
      | some o=>rw [s1 _ _ y] at e; cases e
    refine (show tSeq _ _ _ [some (.ref D.p),some (.str x),some (.int len),some (.int D.ct)] (upd H1 D.p (.ins c_Tree dx (putF "counted" (.int (D.ct+1)) fs))) from ?_)
    generalize upd H1 D.p (.ins c_Tree dx (putF "counted" (.int (D.ct+1)) fs))=H2 at O2 kp2 n2 ⊢
    obtain ⟨dx,fs,hp,ft⟩:=O2.ex
    have N2:=O2.nd n nin
    obtain ⟨dn,fn,hnp,hft⟩:=N2.ex
    refine zae fun R hR=>?_
    walk_at "rd"
    refine zaj hp T.cl_Tree T.na_Tree_nodes ft.no ?_
    walk_at "rd"
    refine ⟨_,nd_at (D:={ D with ct:=D.ct+1 }) O2 hx,?_⟩
    refine zaj hnp T.cl_Node T.na_Node_queue hft.qu ?_
    walk_at "rd"
    refine ⟨zfx N2.qu.hl,fun q hq=>?_⟩
    have s3:=zap (o:=.tup [.int D.ct,.int len]) hq
    have O3:=O2.same s3
    have r3:Duos (upd H2 q (.tup [.int D.ct,.int len])) (n.ps++[q]) (n.qu++[(D.ct,len)]):=zfa (F:=fun p (g:D2)=>upd H2 q (.tup [.int D.ct,.int len]) p=some (.tup (d2 g))) zac (O3.nd n nin).qu.r
    have O4:=O3.queue W.nn nin r3
    rw [List.map_append] at O4
    refine zhc (s3 _ _ N2.qu.hl) (by rw [List.length_map]; omega) (hR _ _ ?_)
    clear hR
    walk_at "rd"
    refine k q _ (n2 q hq) O4 fun b o nb e=>?_
    have b1:b≠D.p:=fun z=>nb (z ▸ List.mem_cons_self ..)
    have b2:b≠n.ql:=fun z=>nb (TD.mem_node nin (z ▸ List.mem_cons_of_mem _ (List.mem_cons_self ..)))
    have e2:=kp2 b o b1 (s1 _ _ e)
    rw [zai b2]
    exact s3 _ _ e2)
  clear hR
  refine ite2 (fun a1=>zaj hp T.cl_Tree T.na_Tree_most ft.mo ⟨_,rfl,?_⟩) fun a1=>rs_of (kl fun z=>a1 z.1) T.xc_NoLength
  exact ite2 (fun a2=>post ⟨a1,a2⟩) fun a2=>rs_of (kl fun z=>a2 z.2) T.xc_NoLength
def spGo (C:Cl):Sp:=fun vs H Q _=>∃ (D:TD),vs = [.ref D.p]/\TrOk C H D/\D.gs.length<=900/\∀ l ps H',Same H H'->H l=none->H' l=some (.lst (ps.map V.ref))->Paired (fun p g=>H' p=some (.tup (d3V g))) ps D.gs->(∀ p∈ps,H p=none)->Q (.ref l) H'
theorem zmg (T:Txt K mg c_NoName c_Taken c_NoClass c_NoPlace c_NoShare c_NoLength c_TooEarly c_NoneReady c_Members c_Chooser c_Starts c_Rounds c_Node c_Tree):MethD P w K mg base (CXX P w) 1 c_Tree "goings" ["self"] [[]] (spGo (⟨c_Node,c_Starts,c_Rounds,c_Members,c_Node,c_Tree⟩:Cl)):=by
 refine T.me_Tree_goings.okN (k:=0) zkw (fun vs H Q E h=>?_) (fun f cdv A outer s H vs Q E hr h=>?_)
 ·obtain ⟨D,rfl,_⟩:=h
  rfl
 ·obtain ⟨D,rfl,O,gl,k⟩:=h
  refine ⟨_,(zah (zbd (pe_lc ["start", "number", "name"] [] rfl (by with_unfolding_all rfl) (by decide +kernel) rfl (by decide +kernel) (by exact True.intro) (by with_unfolding_all rfl) True.intro (zcr K rfl (zaq (pv 0) rfl)) (fun _ _ _=>(zia (n:=3) K rfl rfl (zde (zbm (i:=0) (show (["start", "number", "name"]:List Str).Nodup from by decide +kernel) rfl (by first|left;rfl|right;rfl)) (zde (zbm (i:=1) (show (["start", "number", "name"]:List Str).Nodup from by decide +kernel) rfl (by first|left;rfl|right;rfl)) (zde (zbm (i:=2) (show (["start", "number", "name"]:List Str).Nodup from by decide +kernel) rfl (by first|left;rfl|right;rfl)) zhy))))) (fun _ _ _=>zfs) (fun _ _ _=>(zfz (zaa (pv 0) (zaa (pv 1) (zaa (pv 2) zaf)))))))),?_⟩
  show tRet _ _ [some (.ref D.p)] H
  obtain ⟨dx,fs,hp,ft⟩:=O.ex
  have lg:=O.gr.length
  walk_at "rd"
  refine zaj hp T.cl_Tree T.na_Tree_gone ft.go ?_
  walk_at "rd"
  refine ⟨⟨_,.of O.go⟩,fun L hL=>?_⟩
  show CompG _ _ _ _ L [none,none,none] _ _
  refine zei (xs:=D.gp.map V.ref) (fun i τ H'=>(∃ v0 v1 v2,τ = [v0,v1,v2])/\Same H H'/\∃ ps,H' L=some (.lst ((ps:List Addr).map V.ref))/\Paired (fun p g=>H' p=some (.tup (d3V g))) ps (D.gs.take i)/\∀ p∈ps,H p=none) ⟨⟨none,none,none,rfl⟩,zap hL,[],zac,.nil,fun p hp=>absurd hp List.not_mem_nil⟩ (fun i τ H' _ h=>.of (h.2.1 _ _ O.go)) ?_ ?_
  ·rintro i x τ H' hx ⟨⟨v0,v1,v2,rfl⟩,s',ps,hDl,pr,nw⟩
   rw [List.getElem?_map] at hx
   cases e:D.gp[i]? with
   | none=>rw [e] at hx; cases hx
   | some p =>
    rw [e] at hx
    cases hx
    obtain ⟨g,hg,hgp⟩:=zic O.gr e
    refine ⟨p,_,rfl,.of (s' _ _ hgp),rfl,_,_,rfl,_,_,rfl,_,_,rfl,rfl,?_⟩
    simp only [tYes,if_true]
    walk_at "rd"
    intro q hq
    have s2:=zap (o:=.tup [.int g.1,.int g.2.1,.str g.2.2]) hq
    have nL:L≠q:=zan hDl hq
    have lp:=pr.length
    refine ⟨_,s2 _ _ hDl,zeq ?_,fun b o e=>?_,ps++[q],?_,?_,fun p hp=>?_⟩
    ·rw [List.length_map,lp,List.length_take]; omega
    ·rw [zai (zan e hL)]; exact s2 _ _ (s' _ _ e)
    ·rw [zac,List.map_append]; rfl
    ·rw [zeb hg]
     refine zfa (F:=fun p g=>upd (upd H' q (.tup [.int _,.int _,.str _])) L _ p=some (.tup (d3V g))) ?_ (zdq (fun a b z=>?_) pr)
     ·rw [zai (Ne.symm nL)]; exact zac
     ·have:a≠L:=fun y=>by rw [y,hDl] at z; cases z
      rw [zai this]; exact s2 _ _ z
    ·rcases List.mem_append.mp hp with z | z
     ·exact nw p z
     ·rw [List.mem_singleton.mp z]
      cases y:H q with
      | none=>rfl
      | some o=>rw [s' _ _ y] at hq; cases hq
  ·rintro τ H' ⟨_,s',ps,hDl,pr,nw⟩
   rw [List.length_map,lg,List.take_length] at pr
   exact k L ps H' s' hL hDl pr nw
def spFL (C:Cl):Sp:=fun vs H Q _=>∃ (D:TD),vs = [.ref D.p]/\TrOk C H D/\D.ns.length<=900/\∀ l H',Same H H'->H l=none->H' l=some (.lst ((fullL D.ns).map V.str))->Q (.ref l) H'
theorem zfj (T:Txt K mg c_NoName c_Taken c_NoClass c_NoPlace c_NoShare c_NoLength c_TooEarly c_NoneReady c_Members c_Chooser c_Starts c_Rounds c_Node c_Tree):MethD P w K mg base (CXX P w) 1 c_Tree "full_leaves" ["self"] [[]] (spFL (⟨c_Node,c_Starts,c_Rounds,c_Members,c_Node,c_Tree⟩:Cl)):=by
 refine T.me_Tree_full_leaves.okN (k:=0) zgu (fun vs H Q E h=>?_) (fun f cdv A outer s H vs Q E hr h=>?_)
 ·obtain ⟨D,rfl,_⟩:=h
  rfl
 ·obtain ⟨D,rfl,O,nl,k⟩:=h
  refine ⟨_,(zah (zbd (zws (pe_lc ["name", "node"] [] rfl (by with_unfolding_all rfl) (by decide +kernel) rfl (by decide +kernel) (by exact True.intro) (by with_unfolding_all rfl) True.intro (zuc (zaq (pv 0) rfl)) (fun _ _ _=>(zia (n:=2) K rfl rfl (zde (zbm (i:=0) (show (["name", "node"]:List Str).Nodup from by decide +kernel) rfl (by first|left;rfl|right;rfl)) (zde (zbm (i:=1) (show (["name", "node"]:List Str).Nodup from by decide +kernel) rfl (by first|left;rfl|right;rfl)) zhy)))) (fun _ _ _=>(zha (zjs K rfl (zok K rfl (pv 1) rfl)))) (fun _ _ _=>(pv 0)))))),?_⟩
  show tRet _ _ [some (.ref D.p)] H
  obtain ⟨dx,fs,hp,ft⟩:=O.ex
  walk_at "rd"
  unfold tThaw
  walk_at "rd"
  unfold zvi
  walk_at "rd"
  refine zaj hp T.cl_Tree T.na_Tree_nodes ft.no ?_
  refine ⟨_,rfl,_,O.hn,fun o L hL=>?_⟩
  have nL:L≠D.pn:=fun z=>by rw [z,zac] at hL; cases hL
  have hL0:H L=none:=by rw [zai nL] at hL; exact hL
  have lk:(ndK D.ns).length=D.ns.length:=zsk _
  refine zqn (fun i τ H'=>(∃ v0 v1,τ = [v0,v1])/\Same (upd H D.pn (.frz o (.dK (ndK D.ns)))) H'/\H' L=some (.lst ((fullL (D.ns.take i)).map V.str))) ⟨⟨none,none,rfl⟩,zap hL,zac⟩ (fun i τ H' _ ⟨_,sm,_⟩=>sm _ _ zac) ?_ ?_
  ·rintro i kv τ H6 p hkv ⟨⟨v0,v1,rfl⟩,sm,hLl⟩ hp6
   obtain ⟨n,hw,rfl⟩:∃ n,D.ns[i]? = some n/\((Sum.inr n.nm:Key),V.ref n.p)=kv:=by
    unfold ndK at hkv
    rw [List.getElem?_map] at hkv
    cases e:D.ns[i]? with
    | none=>rw [e] at hkv; cases hkv
    | some p=>rw [e] at hkv; exact ⟨p,rfl,Option.some.inj hkv⟩
   have nin:=List.mem_of_getElem? hw
   have N:=O.nd n nin
   obtain ⟨dn,fn,hnp,hft⟩:=N.ex
   have sn:=zap (o:=.tup [kV (Sum.inr n.nm:Key),V.ref n.p]) hp6
   have sm:=sm.trans sn
   have hLl:=sn _ _ hLl
   refine ⟨p,_,rfl,.of zac,rfl,?_⟩
   generalize upd H6 p (.tup [kV (Sum.inr n.nm:Key),V.ref n.p])=H7 at sm hLl ⊢
   have a1:=(O.apart nin (b:=n.p) (List.mem_cons_self ..)).2.1
   have a2:=(O.apart nin (b:=n.ql) (List.mem_cons_of_mem _ (List.mem_cons_self ..))).2.1
   have h7:=sm _ _ (show upd H D.pn (.frz o (.dK (ndK D.ns))) n.p = _ by rw [zai a1]; exact hnp)
   have q7:=sm _ _ (show upd H D.pn (.frz o (.dK (ndK D.ns))) n.ql = _ by rw [zai a2]; exact N.qu.hl)
   have ta:fullL (D.ns.take (i+1))=fullL (D.ns.take i)++(if decide (n.ps≠[])=true then [n.nm] else []):=by
    unfold fullL
    rw [zeb hw,List.filter_append,List.map_append,List.filter_cons,List.filter_nil]
    split <;> rfl
   walk_at "rd"
   refine zaj h7 T.cl_Node T.na_Node_queue hft.qu ⟨_,truL (.of q7),?_⟩
   rw [ta]
   cases e:n.ps with
   | nil =>
    refine ite2 (fun z=>by cases z) fun _=>⟨sm,?_⟩
    rw [if_neg (by simp),List.append_nil]; exact hLl
   | cons y r =>
    refine ite2 (fun _=>?_) fun z=>absurd rfl z
    walk_at "rd"
    have ll:((fullL (D.ns.take i)).map V.str).length<=900:=by
     rw [List.length_map]
     unfold fullL
     rw [List.length_map]
     have:=List.length_filter_le (fun n:ND=>decide (n.ps≠[])) (D.ns.take i)
     rw [List.length_take] at this
     omega
    refine ⟨_,hLl,zeq (by omega),fun b u' e'=>?_,?_⟩
    ·rw [zai (zan e' hL)]; exact sm _ _ e'
    ·rw [zac,if_neg (show ¬ (y :: r = []) from by simp),List.map_append]; rfl
  ·rintro τ H6 ⟨_,sm,hLl⟩
   rw [lk,List.take_length] at hLl
   refine ⟨D.pn,⟨_,O.hn⟩,o,_,sm _ _ zac,?_⟩
   refine k L _ (fun b u' e=>?_) hL0 (by rw [zai nL]; exact hLl)
   by_cases z:b=D.pn
   ·subst z
    rw [O.hn] at e; cases e
    exact zac
   ·rw [zai z]
    exact sm _ _ (by rw [zai z]; exact e)
def spLT (C:Cl):Sp:=fun vs H Q _=>∃ (D:TD) (x:Str) (t:Int) (n:ND) (g:D2) (r:List D2) (ys:List Str),vs = [.ref D.p,.str x,.int t]/\TrOk C H D/\fndN D.ns x=some n/\n.qu=g :: r/\Up D.ns x ys/\ys.length<=6/\(1<=g.2/\g.2<=D.most/\D.most<=1000000)/\(∀ b∈bksOf D.ns ys,BkOk D.most b/\b.s<=t)/\(0<=t/\t<10000000000000000)/\(L2.NoB D)/\∀ a H',Same H H'->LfT (bksOf D.ns ys) t g.2 a->Q (.int a) H'
theorem zfy (T:Txt K mg c_NoName c_Taken c_NoClass c_NoPlace c_NoShare c_NoLength c_TooEarly c_NoneReady c_Members c_Chooser c_Starts c_Rounds c_Node c_Tree):MethD P w K mg base (CXX P w) 2 c_Tree "leaf_time" ["self", "name", "at"] [[]] (spLT (⟨c_Node,c_Starts,c_Rounds,c_Members,c_Node,c_Tree⟩:Cl)):=by
 have M_Tree_from_road:=zec (P:=P) (w:=w) (base:=base) T
 refine T.me_Tree_leaf_time.okN (k:=1) sc_Tree_leaf_time (fun vs H Q E h=>?_) (fun f cdv A outer s H vs Q E hr h=>?_)
 ·obtain ⟨D,x,t,n,g,r,ys,rfl,_⟩:=h
  rfl
 ·obtain ⟨D,x,t,n,g,r,ys,rfl,O,hx,hq,U,yl,gb,ok,tb,nb,k⟩:=h
  refine ⟨_,(zad (zbc (i:=3) sc_Tree_leaf_time.nd rfl (by first|left;rfl|right;rfl) (pe_ix (zaz K rfl) (pe_ix (zfe K rfl) (zaq (zdd (hu_of hr) (zaq (pv 0) rfl) (pv 1) (fun _ _=>rfl)) rfl) zam (fun _ _=>rfl)) zam (fun _ _=>rfl))) (zad (zwq (i0:=4) ["one"] [("self", 0)] rfl (by with_unfolding_all rfl) (by decide +kernel) rfl (by decide +kernel) (by exact ⟨rfl,True.intro⟩) (by with_unfolding_all rfl) ⟨⟨rfl,rfl,rfl⟩,True.intro⟩ (zcr K rfl (zar (dvs:=[]) M_Tree_from_road (by simp) T.cl_Tree (hr.mono (by decide)) passN (pv 0) (zaa (pv 1) zaf))) (fun _ _ _=>(zbm (i:=0) (show (["one", "self"]:List Str).Nodup from by decide +kernel) rfl (by first|left;rfl|right;rfl))) (fun _ _ _=>zfs) (fun _ _ _=>(zok K rfl (zdd (hu_of hr) (zok K rfl (pv 1) rfl) (pv 0) (fun _ _=>rfl)) rfl)) (by with_unfolding_all rfl) sc_Tree_leaf_time.nd rfl (by first|left;rfl|right;rfl)) (zah (zbd (zwh K rfl rfl rfl T.no_max (zaa (pe_lc ["bucket"] [("at", 2),("length", 3)] rfl (by with_unfolding_all rfl) (by decide +kernel) rfl (by decide +kernel) (by exact ⟨rfl,⟨rfl,True.intro⟩⟩) (by with_unfolding_all rfl) ⟨⟨rfl,rfl,rfl⟩,⟨⟨rfl,rfl,rfl⟩,True.intro⟩⟩ (zcr K rfl (pv 4)) (fun _ _ _=>(zbm (i:=0) (show (["bucket", "at", "length"]:List Str).Nodup from by decide +kernel) rfl (by first|left;rfl|right;rfl))) (fun _ _ _=>(zha (zba zfq (pv 0) zdn (zbk _)))) (fun _ _ _=>zui)) zaf) (pv 2)))))),?_⟩
  show tSeq _ _ _ [some (.ref D.p),some (.str x),some (.int t),none,none] H
  obtain ⟨dx,fs,hp,ft⟩:=O.ex
  obtain ⟨nin,ne⟩:=zas hx
  have N:=O.nd n nin
  obtain ⟨dn,fn,hnp,hft⟩:=N.ex
  have QL:=N.qu
  rw [hq] at QL
  obtain ⟨p0,rest,ep,h0⟩:∃ p0 rest,n.ps=p0 :: rest/\H p0=some (.tup (d2 g)):=by
   have r0:=QL.r
   generalize n.ps=ps at r0
   cases r0 with
   | cons a b=>exact ⟨_,_,rfl,a⟩
  have hl:=N.qu.hl
  rw [ep] at hl
  refine zae fun R hR=>?_
  walk_at "rd"
  refine zaj hp T.cl_Tree T.na_Tree_nodes ft.no ⟨_,rfl,_,nd_at O hx,?_⟩
  refine zaj hnp T.cl_Node T.na_Node_queue hft.qu ?_
  refine zjp (.of hl) (zga (xs:=(p0 :: rest).map V.ref) (j:=0) (v:=.ref p0) rfl) (zbl (.of h0) (v:=.int g.2) rfl (hR _ _ ?_))
  clear hR
  refine zae fun R hR=>?_
  walk_at "rd"
  refine zav hp (miz ft _) ⟨D,x,ys,rfl,O,U,by omega,fun l H1 s1 fl hl1=>⟨l,rfl,⟨_,.of hl1⟩,fun L hL=>?_⟩⟩
  have O1:=O.same s1
  have nL:l≠L:=zan hl1 hL
  refine zei (K:=K) (a:=l) (xs:=ys.reverse.map V.str) (fun i τ H'=>(∃ v0,τ = [v0,some (.ref D.p)])/\Same H1 H'/\H' L=some (.lst (bvs D.ns (ys.reverse.take i)))) ⟨⟨none,rfl⟩,zap hL,zac⟩ (fun i τ H' _ h=>.of (h.2.1 _ _ hl1)) ?_ ?_
  ·rintro i v τ H2 hv ⟨⟨v0,rfl⟩,s2,hLl⟩
   obtain ⟨y,hy,rfl⟩:∃ y,ys.reverse[i]? = some y/\V.str y=v:=by
    rw [List.getElem?_map] at hv
    cases e:ys.reverse[i]? with
    | none=>rw [e] at hv; cases hv
    | some z=>rw [e] at hv; exact ⟨z,rfl,Option.some.inj hv⟩
   obtain ⟨m,hm⟩:=U.mem y (List.mem_reverse.mp (List.mem_of_getElem? hy))
   obtain ⟨min,me⟩:=zas hm
   have O2:=O1.same s2
   obtain ⟨dx2,fs2,hp2,ft2⟩:=O2.ex
   obtain ⟨dm,fm,hmp,hmt⟩:=(O2.nd m min).ex
   walk_at "rd"
   simp only [tYes,if_true]
   walk_at "rd"
   refine zaj hp2 T.cl_Tree T.na_Tree_nodes ft2.no ⟨_,rfl,_,nd_at O2 hm,?_⟩
   refine zaj hmp T.cl_Node T.na_Node_bucket hmt.bk ?_
   refine ⟨_,hLl,zeq ?_,fun b u' e=>?_,?_⟩
   ·unfold bvs
    rw [List.length_map,List.length_take,List.length_reverse]
    omega
   ·rw [zai (zan e hL)]; exact s2 _ _ e
   ·rw [zac,zeb hy]
    unfold bvs
    rw [List.map_append]
    show _=some (HO.lst (_++[bkV ((fndN D.ns y).bind (·.bk))]))
    rw [hm]; rfl
  ·rintro τ H2 ⟨_,s2,hLl⟩
   rw [List.length_map,List.take_length,zxc nb] at hLl
   refine hR _ _ ?_
   clear hR
   have fL:H1 L=none:=hL
   walk_at "rd"
   unfold tMaxD
   walk_at "rd"
   refine ⟨⟨_,.of hLl⟩,fun M hM=>?_⟩
   refine zei (K:=K) (a:=L) (xs:=ys.reverse.map fun _=>V.non) (fun i τ H'=>(∃ v0 v1 v2,τ = [v0,v1,v2])/\Same H2 H'/\H' M=some (.lst [])) ⟨⟨_,_,_,rfl⟩,zap hM,zac⟩ (fun i τ H' _ h=>.of (h.2.1 _ _ hLl)) ?_ ?_
   ·rintro i v τ H3 hv ⟨⟨v0,v1,v2,rfl⟩,s3,hMl⟩
    obtain rfl:v=V.non:=by
     rw [List.getElem?_map] at hv
     cases e:ys.reverse[i]? with
     | none=>rw [e] at hv; cases hv
     | some z=>rw [e] at hv; exact (Option.some.inj hv).symm
    walk_at "rd"
    first
     | exact ⟨⟨_,_,_,rfl⟩,s3,hMl⟩
     | exact ⟨s3,hMl⟩
   ·rintro τ H3 ⟨_,s3,hMl⟩
    refine ⟨M,rfl,[],.of hMl,fun m h0 _=>?_⟩
    obtain rfl:=h0 rfl
    refine k _ H3 (s1.trans (s2.trans s3)) ?_
    rw [znq nb]
    exact LfT.nil _ _
def spRA (C:Cl):Sp:=fun vs H Q _=>∃ (D:TD) (t:Int) (v:Nat),vs = [.ref D.p,.int t]/\TrOk C H D/\D.Dy t v/\(0<=t/\t<10000000000000000)/\(L2.NoB D)/\∀ l ks H',Same H H'->H l=none->H' l=some (.dK (rdK ks))->(∀ y,y∈ks↔Rdy D t y)->Q (.ref l) H'
theorem zkm (T:Txt K mg c_NoName c_Taken c_NoClass c_NoPlace c_NoShare c_NoLength c_TooEarly c_NoneReady c_Members c_Chooser c_Starts c_Rounds c_Node c_Tree):MethD P w K mg base (CXX P w) 3 c_Tree "ready_at" ["self", "at"] [[]] (spRA (⟨c_Node,c_Starts,c_Rounds,c_Members,c_Node,c_Tree⟩:Cl)):=by
 have M_Tree_full_leaves:=zfj (P:=P) (w:=w) (base:=base) T
 have M_Tree_leaf_time:=zfy (P:=P) (w:=w) (base:=base) T
 have M_Tree_from_road:=zec (P:=P) (w:=w) (base:=base) T
 refine T.me_Tree_ready_at.okN (k:=2) sc_Tree_ready_at (fun vs H Q E h=>?_) (fun f cdv A outer s H vs Q E hr h=>?_)
 ·obtain ⟨D,t,v,rfl,_⟩:=h
  rfl
 ·obtain ⟨D,t,v,rfl,O,Y,tb,nb,k⟩:=h
  refine ⟨_,(zad (zbc (i:=2) sc_Tree_ready_at.nd rfl (by first|left;rfl|right;rfl) zhe) (zad (zis PassesOwn.never rfl (zcr K rfl (zci (dvs:=[]) M_Tree_full_leaves (by simp) T.cl_Tree (hr.mono (by decide)) passN (pv 0))) (zbm (i:=3) sc_Tree_ready_at.nd rfl (by first|left;rfl|right;rfl)) (zah (ps_if (zba op_eq (zar (dvs:=[]) M_Tree_leaf_time (by simp) T.cl_Tree (hr.mono (by decide)) passN (pv 0) (zaa (pv 3) (zaa (pv 1) zaf))) (pv 1) (zbk _)) (zah (zis PassesOwn.never rfl (zcr K rfl (zar (dvs:=[]) M_Tree_from_road (by simp) T.cl_Tree (hr.mono (by decide)) passN (pv 0) (zaa (pv 3) zaf))) (zbm (i:=4) sc_Tree_ready_at.nd rfl (by first|left;rfl|right;rfl)) (zah (zez (hu_of hr) (pv 2) (pv 4) pe_bl rfl)))) zbb))) (zah (zbd (pv 2))))),?_⟩
  show tSeq _ _ _ [some (.ref D.p),some (.int t),none,none,none] H
  have nl:=Y.ln
  refine zae fun R hR=>?_
  walk_at "rd"
  intro l hl
  refine hR _ _ ?_
  clear hR
  have s1:=zap (o:=.dK []) hl
  have O1:=O.same s1
  obtain ⟨dx,fs,hp,ft⟩:=O1.ex
  refine zae fun R hR=>?_
  walk_at "rd"
  refine zfg fun Z hZ=>?_
  walk_at "rd"
  refine zav hp (miz ft _) ⟨D,rfl,O1,by omega,fun l2 H2 s2 hl2 h2=>⟨l2,rfl,⟨_,.of h2⟩,hZ _ _ ?_⟩⟩
  clear hZ
  have fll:(fullL D.ns).length<=60:=by
   unfold fullL
   rw [List.length_map]
   exact Nat.le_trans (List.length_filter_le _ _) nl
  have s02:Same H H2:=s1.trans s2
  have hl0:H2 l=some (.dK (rdK [])):=s2 _ _ zac
  have nl2:l2≠l:=fun z=>by rw [z,hl0] at h2; cases h2
  have f2:H l2=none:=by
   cases z:H l2 with
   | none=>rfl
   | some o=>rw [s1 _ _ z] at hl2; cases hl2
  refine zfc (K:=K) (a:=l2) (xs:=(fullL D.ns).map V.str) (fun i σ H'=>∃ v3 v4 ks,σ = [some (.ref D.p),some (.int t),some (.ref l),v3,v4]/\Same H H'/\H' l2=some (.lst ((fullL D.ns).map V.str))/\H' l=some (.dK (rdK ks))/\ks.length<=6*i/\(∀ y,y∈ks↔∃ x∈(fullL D.ns).take i,∃ ys,May D x t/\Up D.ns x ys/\y∈ys)) ⟨none,none,[],rfl,s02,h2,hl0,Nat.le_refl _,fun y=>⟨fun z=>absurd z List.not_mem_nil,fun ⟨x,hx,_⟩=>absurd hx (by simp)⟩⟩ (fun i σ H' _ ⟨_,_,_,_,_,h,_⟩=>.of h) ?_ ?_
  ·rintro i w0 σ H3 hv ⟨v3,v4,ks,rfl,s3,h3,hl3,kl,kk⟩
   obtain ⟨x,hx,rfl⟩:∃ x,(fullL D.ns)[i]? = some x/\V.str x=w0:=by
    rw [List.getElem?_map] at hv
    cases e:(fullL D.ns)[i]? with
    | none=>rw [e] at hv; cases hv
    | some z=>rw [e] at hv; exact ⟨z,rfl,Option.some.inj hv⟩
   have hi:i<60:=by
    have:=(List.getElem?_eq_some_iff.mp hx).1
    omega
   have xin:=List.mem_of_getElem? hx
   obtain ⟨n,g,r,ys,hn,hq,U,yl,gb,ok⟩:=Y.leaf O xin
   have O3:=O.same s3
   obtain ⟨dx3,fs3,hp3,ft3⟩:=O3.ex
   have take1:∀ y,(∃ x∈(fullL D.ns).take (i+1),∃ ys,May D x t/\Up D.ns x ys/\y∈ys)↔(y∈ks\/(May D x t/\y∈ys)):=fun y=>by
    rw [zeb hx]
    constructor
    ·rintro ⟨z,hz,zs,h1,h2,h3⟩
     rcases List.mem_append.mp hz with q | q
     ·exact .inl ((kk y).mpr ⟨z,q,zs,h1,h2,h3⟩)
     ·rw [List.mem_singleton.mp q] at h1 h2
      rw [h2.det U] at h3
      exact .inr ⟨h1,h3⟩
    ·rintro (q | ⟨q1,q2⟩)
     ·obtain ⟨z,hz,zs,h⟩:=(kk y).mp q
      exact ⟨z,List.mem_append.mpr (.inl hz),zs,h⟩
     ·exact ⟨x,List.mem_append.mpr (.inr (List.mem_singleton.mpr rfl)),ys,q1,U,q2⟩
   show tIfS _ _ _ _ [some (.ref D.p),some (.int t),some (.ref l),some (.str x),v4] H3
   refine zfl fun N hN=>?_
   refine zug fun Gp hGp=>?_
   walk_at "rd"
   refine zav hp3 (miz ft3 _) ⟨D,x,t,n,g,r,ys,rfl,O3,hn,hq,U,yl,gb,ok,tb,nb,fun a H4 s4 la=>?_⟩
   have hl4:=s4 _ _ hl3
   have h4:=s4 _ _ h3
   have s04:=s3.trans s4
   have mi:=(zom hn hq U t).trans la.now.symm
   walk_at "rd"
   refine ite2 (fun c=>hGp _ _ ?_) fun c=>hN _ _ ⟨_,_,ks,rfl,s04,h4,hl4,by omega,fun y=>?_⟩
   ·clear hGp
    have my:=mi.mpr c
    have O4:=O.same s04
    obtain ⟨dx4,fs4,hp4,ft4⟩:=O4.ex
    refine zfg fun Z hZ=>?_
    walk_at "rd"
    refine zav hp4 (miz ft4 _) ⟨D,x,ys,rfl,O4,U,by omega,fun l5 H5 s5 fl5 hl5=>⟨l5,rfl,⟨_,.of hl5⟩,hZ _ _ ?_⟩⟩
    clear hZ
    have n5:l5≠l:=fun z=>by rw [z,hl4] at fl5; cases fl5
    refine zfc (K:=K) (a:=l5) (xs:=ys.reverse.map V.str) (fun j σ H'=>∃ v4 ks',σ = [some (.ref D.p),some (.int t),some (.ref l),some (.str x),v4]/\Same H H'/\H' l2=some (.lst ((fullL D.ns).map V.str))/\H' l5=some (.lst (ys.reverse.map V.str))/\H' l=some (.dK (rdK ks'))/\ks'.length<=6*i+j/\∀ y,y∈ks'↔y∈ks\/y∈ys.reverse.take j) ⟨v4,ks,rfl,s04.trans s5,s5 _ _ h4,hl5,s5 _ _ hl4,by omega,fun y=>⟨.inl,fun z=>z.elim id fun q=>absurd q (by simp)⟩⟩ (fun j σ H' _ ⟨_,_,_,_,_,h,_⟩=>.of h) ?_ ?_
    ·rintro j w1 σ H6 hv6 ⟨v4',ks',rfl,s6,h6,h65,hl6,kl6,kk6⟩
     obtain ⟨y,hy,rfl⟩:∃ y,ys.reverse[j]? = some y/\V.str y=w1:=by
      rw [List.getElem?_map] at hv6
      cases e:ys.reverse[j]? with
      | none=>rw [e] at hv6; cases hv6
      | some z=>rw [e] at hv6; exact ⟨z,rfl,Option.some.inj hv6⟩
     have hj:j<6:=by
      have:=(List.getElem?_eq_some_iff.mp hy).1
      rw [List.length_reverse] at this
      omega
     show sDPut _ _ _ _ [some (.ref D.p),some (.int t),some (.ref l),some (.str x),some (.str y)] H6
     refine zfl fun N2 hN2=>?_
     walk_at "rd"
     have lk:(rdK ks').length=ks'.length:=List.length_map _
     refine ⟨_,DPut.k (k:=Sum.inr y) hl6 (zeq (by omega)),hN2 _ _ ?_⟩
     rw [zxa]
     have kp:∀ b o,b≠l->H6 b=some o->upd H6 l (.dK (rdK (addK ks' y))) b=some o:=fun b o q e=>by rw [zai q]; exact e
     refine ⟨_,addK ks' y,rfl,fun b o e=>kp b o (zan e hl) (s6 _ _ e),kp _ _ nl2 h6,kp _ _ n5 h65,zac,?_,fun z=>?_⟩
     ·have:=zul ks' y
      omega
     ·rw [zuk,kk6,zeb hy,List.mem_append,List.mem_singleton,or_assoc]
    ·rintro σ H6 ⟨v4',ks',rfl,s6,h6,h65,hl6,kl6,kk6⟩
     rw [List.length_map,List.take_length] at kk6
     rw [List.length_map,List.length_reverse] at kl6
     refine hN _ _ ⟨_,_,ks',rfl,s6,h6,hl6,by omega,fun y=>?_⟩
     rw [take1,kk6,List.mem_reverse]
     exact or_congr Iff.rfl ⟨fun q=>⟨my,q⟩,fun q=>q.2⟩
   ·rw [take1]
    exact ⟨.inl,fun q=>q.elim id fun z=>absurd (mi.mp z.1) c⟩
  ·rintro σ H3 ⟨v3,v4,ks,rfl,s3,h3,hl3,kl,kk⟩
   rw [List.length_map,List.take_length] at kk
   refine hR _ _ ?_
   walk_at "rd"
   refine k l ks H3 s3 hl hl3 fun y=>?_
   rw [kk]
   constructor
   ·rintro ⟨x,_,ys,h1,h2,h3⟩
    exact ⟨x,ys,h1,h2,h3⟩
   ·rintro ⟨x,ys,h1,h2,h3⟩
    exact ⟨x,Y.full O h1,ys,h1,h2,h3⟩
def spNC (C:Cl):Sp:=fun vs H Q _=>∃ (D:TD) (τ:Int) (v:Nat),vs = [.ref D.p]/\TrOk C H D/\D.Dy τ v/\(τ<=D.tm\/τ<=D.fr)/\(0<=D.tm/\D.tm<10000000000000000/\D.fr<10000000000000000)/\(L2.NoB D)/\(fullL D.ns = []->∀ H',Same H H'->Q .non H')/\(∀ a,Nx D a->a<=max D.tm D.fr+1000000000000->∀ H',Same H H'->Q (.int a) H')
theorem zhv (T:Txt K mg c_NoName c_Taken c_NoClass c_NoPlace c_NoShare c_NoLength c_TooEarly c_NoneReady c_Members c_Chooser c_Starts c_Rounds c_Node c_Tree):MethD P w K mg base (CXX P w) 3 c_Tree "next_choice" ["self"] [[]] (spNC (⟨c_Node,c_Starts,c_Rounds,c_Members,c_Node,c_Tree⟩:Cl)):=by
 have M_Tree_full_leaves:=zfj (P:=P) (w:=w) (base:=base) T
 have M_Tree_leaf_time:=zfy (P:=P) (w:=w) (base:=base) T
 refine T.me_Tree_next_choice.okN (k:=2) sc_Tree_next_choice (fun vs H Q E h=>?_) (fun f cdv A outer s H vs Q E hr h=>?_)
 ·obtain ⟨D,τ,v,rfl,_⟩:=h
  rfl
 ·obtain ⟨D,τ,v,rfl,O,Y,tv,tb,nb,k0,k⟩:=h
  refine ⟨_,(zad (zbc (i:=1) sc_Tree_next_choice.nd rfl (by first|left;rfl|right;rfl) (zcq (zjj rfl) rfl T.no_max boot_max (zaa (zaq (pv 0) rfl) (zaa (zaq (pv 0) rfl) zaf)))) (zah (zbd (zwv K rfl rfl rfl T.no_min (zaa (pe_lc ["name"] [("at", 1),("self", 0)] rfl (by with_unfolding_all rfl) (by decide +kernel) rfl (by decide +kernel) (by exact ⟨rfl,⟨rfl,True.intro⟩⟩) (by with_unfolding_all rfl) ⟨⟨rfl,rfl,rfl⟩,⟨⟨rfl,rfl,rfl⟩,True.intro⟩⟩ (zcr K rfl (zci (dvs:=[]) M_Tree_full_leaves (by simp) T.cl_Tree (hr.mono (by decide)) passN (pv 0))) (fun _ _ _=>(zbm (i:=0) (show (["name", "at", "self"]:List Str).Nodup from by decide +kernel) rfl (by first|left;rfl|right;rfl))) (fun _ _ _=>zfs) (fun _ _ _=>(zar (dvs:=[]) M_Tree_leaf_time (by simp) T.cl_Tree (hr.mono (by decide)) passN (pv 2) (zaa (pv 0) (zaa (pv 1) zaf))))) zaf) zdn)))),?_⟩
  show tSeq _ _ _ [some (.ref D.p),none] H
  obtain ⟨dx,fs,hp,ft⟩:=O.ex
  have nl:=Y.ln
  refine zae fun R hR=>?_
  walk_at "rd"
  refine zaj hp T.cl_Tree T.na_Tree_time ft.ti (zaj hp T.cl_Tree T.na_Tree_free ft.fr ⟨_,rfl,_,rfl,hR _ _ ?_⟩)
  clear hR
  walk_at "rd"
  unfold tMinD
  walk_at "rd"
  obtain ⟨at0,e0,a1,a2,a3⟩:∃ at0,(if D.fr > D.tm then D.fr else D.tm)=at0/\D.tm<=at0/\D.fr<=at0/\at0<=max D.tm D.fr:=by
   refine ⟨_,rfl,?_,?_,?_⟩ <;> split <;> omega
  rw [e0]
  have tb0:0<=at0/\at0<10000000000000000:=by omega
  refine zav hp (miz ft _) ⟨D,rfl,O,by omega,fun l H1 s1 hl h1=>⟨l,rfl,⟨_,.of h1⟩,fun L hL=>?_⟩⟩
  have nL:l≠L:=zan h1 hL
  have O1:=O.same s1
  have fll:(fullL D.ns).length<=60:=by
   unfold fullL
   rw [List.length_map]
   exact Nat.le_trans (List.length_filter_le _ _) nl
  refine zei (K:=K) (a:=l) (xs:=(fullL D.ns).map V.str) (fun i τ H'=>∃ v0 as,τ = [v0,some (.int at0),some (.ref D.p)]/\Same H1 H'/\H' L=some (.lst ((as:List Int).map V.int))/\Paired (fun x a=>LfOf D at0 x a) ((fullL D.ns).take i) as) ⟨none,[],rfl,zap hL,zac,.nil⟩ (fun i τ H' _ ⟨_,_,_,h,_⟩=>.of (h _ _ h1)) ?_ ?_
  ·rintro i w0 τ H2 hv ⟨v0,as,rfl,s2,hLl,pr⟩
   obtain ⟨x,hx,rfl⟩:∃ x,(fullL D.ns)[i]? = some x/\V.str x=w0:=by
    rw [List.getElem?_map] at hv
    cases e:(fullL D.ns)[i]? with
    | none=>rw [e] at hv; cases hv
    | some z=>rw [e] at hv; exact ⟨z,rfl,Option.some.inj hv⟩
   have xin:=List.mem_of_getElem? hx
   obtain ⟨n,g,r,ys,hn,hq,U,yl,gb,ok⟩:=Y.leaf O xin
   have O2:=O1.same s2
   obtain ⟨dx2,fs2,hp2,ft2⟩:=O2.ex
   have ok:∀ b∈bksOf D.ns ys,BkOk D.most b/\b.s<=at0:=fun b hb=>⟨(ok b hb).1,by have:=(ok b hb).2; omega⟩
   walk_at "rd"
   simp only [tYes,if_true]
   walk_at "rd"
   refine zav hp2 (miz ft2 _) ⟨D,x,at0,n,g,r,ys,rfl,O2,hn,hq,U,yl,gb,ok,tb0,nb,fun a H3 s3 la=>?_⟩
   have al:=pr.length
   rw [List.length_take] at al
   refine ⟨_,s3 _ _ hLl,zeq (by rw [List.length_map]; omega),fun b u' e=>?_,as++[a],?_,?_⟩
   ·rw [zai (zan e hL)]; exact s3 _ _ (s2 _ _ e)
   ·rw [zac,List.map_append]; rfl
   ·rw [zeb hx]
    exact zfa (F:=fun x a=>LfOf D at0 x a) ⟨n,g,r,ys,hn,hq,U,la,la.bound (fun b hb=>(ok b hb).1) gb.2.1 (by omega) gb.2.2 fun b hb=>(ok b hb).2⟩ pr
  ·rintro τ H2 ⟨v0,as,rfl,s2,hLl,pr⟩
   rw [List.length_map,List.take_length] at pr
   refine ⟨L,rfl,as,.of hLl,fun ea=>?_,fun a ha la=>?_⟩
   ·refine k0 ?_ H2 (s1.trans s2)
    have:=pr.length
    rw [ea] at this
    exact List.eq_nil_of_length_eq_zero this
   ·obtain ⟨x,hx,h⟩:=zll pr a ha
    obtain ⟨m1,m2,m3⟩:=h.may
    obtain ⟨_,_,_,_,_,_,_,_,bd⟩:=h
    refine k a ⟨⟨x,m1⟩,⟨by omega,by omega⟩,fun z u u1 u2 mz=>?_⟩ (by omega) H2 (s1.trans s2)
    obtain ⟨a',ha',h'⟩:=zjy pr z (Y.full O mz)
    have:=h'.may.2.2 u (by rw [<- e0]; split <;> omega) mz
    have:=la a' ha'
    omega
def spChg (C:Cl):Sp:=fun vs H Q _=>∃ (D:TD) (n:ND) (t len:Int),vs = [.ref n.p,.int t,.int len]/\TrOk C H D/\(D.ns.map (·.nm)).Nodup/\n∈D.ns/\(∀ c,n.ch=some c->c.2.PayOk)/\(1<=len/\len<=1000000)/\(0<=t/\t<100000000000000000)/\(∀ b,n.bk=some b->BkOk D.most b.2/\b.2.s<=t/\(len:Rat)<=b.2.lv t)/\(L2.NoB D)/\∀ H',TrOk C H' { D with ns:=setN D.ns (n.chg t len) }->Deed n.foot H H'->Q .non H'
theorem zmh (T:Txt K mg c_NoName c_Taken c_NoClass c_NoPlace c_NoShare c_NoLength c_TooEarly c_NoneReady c_Members c_Chooser c_Starts c_Rounds c_Node c_Tree):MethD P w K mg base (CXX P w) 6 c_Node "charge" ["self", "at", "length"] [[]] (spChg (⟨c_Node,c_Starts,c_Rounds,c_Members,c_Node,c_Tree⟩:Cl)):=by
 have M_Starts_pay:=znw (P:=P) (w:=w) (base:=base) T
 have M_Rounds_pay:=zny (P:=P) (w:=w) (base:=base) T
 refine T.me_Node_charge.okN (k:=5) zkv (fun vs H Q E h=>?_) (fun f cdv A outer s H vs Q E hr h=>?_)
 ·obtain ⟨D,n,t,len,rfl,_⟩:=h
  rfl
 ·obtain ⟨D,n,t,len,rfl,O,nn,nin,pok,lb,tb,bok,nb,k⟩:=h
  refine ⟨_,(zad (ps_if (zba zfq (zaq (pv 0) rfl) zdn (zbk _)) (zah (zay (znk (zar (dvs:=[]) M_Starts_pay (by simp) T.cl_Starts (hr.mono (by decide)) passN (zaq (pv 0) rfl) (zaa (pv 2) zaf)) (zar (dvs:=[]) M_Rounds_pay (by simp) T.cl_Rounds (hr.mono (by decide)) passN (zaq (pv 0) rfl) (zaa (pv 2) zaf))))) zbb) (zah (ps_if (zba zfq (zaq (pv 0) rfl) zdn (zbk _)) (zah zox) zbb))),?_⟩
  show tSeq _ _ _ [some (.ref n.p),some (.int t),some (.int len)] H
  have N:=O.nd n nin
  obtain ⟨dn,fn,hnp,hft⟩:=N.ex
  have hb:n.bk=none:=nb n nin
  refine zae fun R hR=>?_
  have post:∀ H1 n1,n1.p=n.p->n1.bk=none->TrOk (⟨c_Node,c_Starts,c_Rounds,c_Members,c_Node,c_Tree⟩:Cl) H1 { D with ns:=setN D.ns n1 }->n1=n.chg t len->n1.nm=n.nm->Deed n.foot H H1->R [some (.ref n.p),some (.int t),some (.int len)] H1:=fun H1 n1 e1 e2 O1 e3 e4 dd=>hR _ _ (by
   clear hR
   have n1in:n1∈setN D.ns n1:=by
    unfold setN
    exact List.mem_map.mpr ⟨n,nin,by rw [if_pos e4.symm]⟩
   obtain ⟨d1,f1,h1,hf1⟩:=(O1.nd n1 n1in).ex
   rw [e1] at h1
   rw [e2] at hf1
   walk_at "rd"
   refine zaj h1 T.cl_Node T.na_Node_bucket hf1.bk ?_
   rw [e3] at O1
   exact ite2 (fun _=>k H1 O1 dd) fun z=>absurd rfl z)
  clear hR
  walk_at "rd"
  refine zaj hnp T.cl_Node T.na_Node_chooser hft.ch ?_
  cases hc:n.ch with
  | none =>
   refine ite2 (fun _=>post H n rfl hb (by rw [zsx nn nin]; exact O) ?_ rfl (Same.refl _).deed) fun z=>absurd rfl z
   unfold ND.chg
   rw [hc,hb]
   obtain ⟨a1,a2,a3,a4,a5,a6,a7,a8,a9⟩:=n
   cases hc
   cases hb
   rfl
  | some c =>
   refine ite2 (fun z=>by cases z) fun _=>?_
   obtain ⟨a,cs⟩:=c
   have pk:=pok _ hc
   have CS:=N.ch _ hc
   rw [hc] at hft
   have sub:∀ b∈five a,b∈n.foot:=fun b hb=>by
    unfold ND.foot
    rw [hc]
    exact List.mem_cons_of_mem _ (List.mem_cons_of_mem _ (List.mem_append.mpr (.inl hb)))
   have aft:∀ H1,Own a H H1->ChS c_Starts c_Rounds c_Members H1 a D.most (cs.paid cs.cho len)->R [some (.ref n.p),some (.int t),some (.int len)] H1:=fun H1 ow C1=>post H1 { n with ch:=some (a,cs.paid cs.cho len) } rfl hb (O.chooser nn nin hc ow C1) (by
    unfold ND.chg
    rw [hc,hb]
    obtain ⟨a1,a2,a3,a4,a5,a6,a7,a8,a9⟩:=n
    cases hb
    rfl) rfl (ow.deed.mono sub)
   clear post
   walk_at "rd"
   cases cs with
   | st nm tg gs ck ch M =>
    obtain ⟨x,s,g,e1,e2,sb,e3,e4,e5,e6,e7⟩:=pk
    subst e1
    refine .inl ?_
    walk_at "rd"
    refine zaj hnp T.cl_Node T.na_Node_chooser hft.ch ?_
    have S:Sx c_Starts c_Members H a D.most nm tg gs ck (.str x) M:=CS
    obtain ⟨dx',fs',pr,hp',ft',hr'⟩:=S.ex
    refine zav hp' (ft'.no _ (by decide +kernel) (by decide +kernel) (by decide +kernel) (by decide +kernel) (by decide +kernel) (by decide +kernel)) ⟨a,D.most,nm,tg,gs,ck,M,x,s,g,len,rfl,S,by omega,e2,e3,e4,sb.1,sb.2,by omega,lb.2,e6,e5.mono (by decide),fun H1 ow S1=>aft H1 ow ?_⟩
    show Sx c_Starts c_Members H1 a D.most nm (setS tg x (ck+(len:Rat) / (((shOf nm x).getD 1:Int):Rat))) (setS gs x (max ((gs x).getD 0) ((len:Rat) / (((shOf nm x).getD 1:Int):Rat)))) ck (.str x) (M+2)
    rw [e2,e4]
    exact S1
   | rd nm q rs tu ch =>
    obtain ⟨x,r,e1,e2,e3⟩:=pk
    subst e1
    refine .inr ?_
    walk_at "rd"
    refine zaj hnp T.cl_Node T.na_Node_chooser hft.ch ?_
    have S:Rx c_Rounds c_Members H a D.most nm q rs tu (.str x):=CS
    refine S.meth (by decide +kernel) ⟨a,D.most,nm,q,rs,tu,x,r,len,rfl,S,by omega,e2,fun H1 ow S1=>aft H1 ow ?_⟩
    show Rx c_Rounds c_Members H1 a D.most nm q (putN rs x ((shOf rs x).getD 0-len)) tu (.str x)
    rw [e2]
    exact S1
def spSF (C:Cl):Sp:=fun vs H Q _=>∃ (D:TD) (t:Int) (x:Str) (pre:List Str) (g:D2) (v:Nat),vs = [.ref D.p,.str x,.int t]/\TrOk C H { D with ns:=D.ns.map (chN D.most (Rdy D t) (x :: pre)) }/\(∀ n∈D.ns,n.ch≠none->n.qu = []/\n.ps = [])/\D.Dy t v/\Goes D t x pre g/\(0<=t/\t<10000000000000000)/\(L2.NoB D)/\D.gp.length<=900/\∀ p H',TrOk C H' (D.step (Rdy D t) (x :: pre) x t g p)->Deed D.foot H H'->Q .non H'
theorem zio (T:Txt K mg c_NoName c_Taken c_NoClass c_NoPlace c_NoShare c_NoLength c_TooEarly c_NoneReady c_Members c_Chooser c_Starts c_Rounds c_Node c_Tree):MethD P w K mg base (CXX P w) 7 c_Tree "send_first" ["self", "name", "at"] [[]] (spSF (⟨c_Node,c_Starts,c_Rounds,c_Members,c_Node,c_Tree⟩:Cl)):=by
 have M_Tree_from_road:=zec (P:=P) (w:=w) (base:=base) T
 have M_Node_charge:=zmh (P:=P) (w:=w) (base:=base) T
 refine T.me_Tree_send_first.okN (k:=6) sc_Tree_send_first (fun vs H Q E h=>?_) (fun f cdv A outer s H vs Q E hr h=>?_)
 ·obtain ⟨D,t,x,pre,g,v,rfl,_⟩:=h
  rfl
 ·obtain ⟨D,t,x,pre,g,v,rfl,O,hps,Y,G,tb,nb,gl,k⟩:=h
  refine ⟨_,(zad (zbc (i:=3) sc_Tree_send_first.nd rfl (by first|left;rfl|right;rfl) (pe_bm PySem.F.plainAttrs_list PySem.F.slot_list_pop PySem.F.type_list_pop zts (zaq (zdd (hu_of hr) (zaq (pv 0) rfl) (pv 1) (fun _ _=>rfl)) rfl) (zaa zam zaf))) (zad (zis PassesOwn.never rfl (zcr K rfl (zar (dvs:=[]) M_Tree_from_road (by simp) T.cl_Tree (hr.mono (by decide)) passN (pv 0) (zaa (pv 1) zaf))) (zbm (i:=4) sc_Tree_send_first.nd rfl (by first|left;rfl|right;rfl)) (zah (zay (zar (dvs:=[]) M_Node_charge (by simp) T.cl_Node (hr.mono (by decide)) passN (zdd (hu_of hr) (zaq (pv 0) rfl) (pv 4) (fun _ _=>rfl)) (zaa (pv 2) (zaa (pe_ix (zaz K rfl) (pv 3) zam (fun _ _=>rfl)) zaf)))))) (zad (zay (pe_bm PySem.F.plainAttrs_list PySem.F.slot_list_append PySem.F.type_list_append zdo (zaq (pv 0) rfl) (zaa (zfz (zaa (pv 2) (zaa (pe_ix (zaz K rfl) (pv 3) zam (fun _ _=>rfl)) (zaa (pv 1) zaf)))) zaf))) (zah (zcg (pv 0) (pe_op zfd (pv 2) (pe_ix (zaz K rfl) (pv 3) zam (fun _ _=>rfl))) rfl))))),?_⟩
  show tSeq _ _ _ [some (.ref D.p),some (.str x),some (.int t),none,none] H
  obtain ⟨n,r,hx,hcx,hqx,hbx⟩:=G.q
  obtain ⟨nin,ne⟩:=zas hx
  have U:=G.up
  obtain ⟨ys,U',yl⟩:=Y.W.up n nin
  rw [ne] at U'
  obtain rfl:=U.det U'
  have gb:=Y.qu n nin g (by rw [hqx]; exact List.mem_cons_self ..)
  have m6:=Y.W.m1.2
  have en:∀ f:ND->ND,(∀ y,(f y).nm=y.nm)->((D.ns.map f).map (·.nm)).Nodup:=fun f hf=>by
   have:(D.ns.map f).map (·.nm)=D.ns.map (·.nm):=by
    rw [List.map_map]
    exact List.map_congr_left fun y _=>hf y
   rw [this]
   exact Y.W.nn
  have hx1:fndN (D.ns.map (chN D.most (Rdy D t) (x :: pre))) x=some (chN D.most (Rdy D t) (x :: pre) n):=by rw [zjx zhi,hx]; rfl
  obtain ⟨n1in,n1e⟩:=zas hx1
  have N1:=O.nd _ n1in
  obtain ⟨dn,fn,hnp,hft⟩:=N1.ex
  obtain ⟨c1,c2,c3,c4⟩:=zzf (m:=D.most) (R:=Rdy D t) (S:=x :: pre) n
  have QL:=N1.qu
  rw [c1,c2,c3,hqx] at QL
  obtain ⟨p0,rest,ep,h0,rr⟩:∃ p0 rest,n.ps=p0 :: rest/\H p0=some (.tup (d2 g))/\Duos H rest r:=by
   have r0:=QL.r
   generalize n.ps=ps at r0
   cases r0 with
   | cons a b=>exact ⟨_,_,rfl,a,b⟩
  have hl:=QL.hl
  rw [ep] at hl
  obtain ⟨dx,fs,hp,ft⟩:=O.ex
  have nql:(chN D.most (Rdy D t) (x :: pre) n).ql=n.ql:=c3
  refine zae fun R hR=>?_
  walk_at "rd"
  refine zaj hp T.cl_Tree T.na_Tree_nodes ft.no ⟨_,rfl,_,nd_at O hx1,?_⟩
  refine zaj hnp T.cl_Node T.na_Node_queue hft.qu ?_
  rw [nql]
  refine ⟨zfx hl,n.ql,_,0,0,.ref p0,rfl,rfl,hl,by decide,by decide,by unfold seqIndex?; simp,rfl,hR _ _ ?_⟩
  clear hR
  have O2:=O.queue (en _ zhi) n1in (ps:=rest) (qu:=r) rr
  have eh:upd H (chN D.most (Rdy D t) (x :: pre) n).ql (.lst (rest.map V.ref))=upd H n.ql (.lst (rest.map V.ref)):=by rw [nql]
  rw [eh] at O2
  have e2:setN (D.ns.map (chN D.most (Rdy D t) (x :: pre))) { chN D.most (Rdy D t) (x :: pre) n with ps:=rest,qu:=r } = D.ns.map (midN D.most (Rdy D t) (x :: pre) x [] t g.2):=by
   refine zhk Y.W.nn zhi nin (zhi n) ?_ fun y _ q=>?_
   ·unfold midN
    rw [if_neg List.not_mem_nil,if_pos ne,ep,hqx]
    rfl
   ·unfold midN
    rw [if_neg List.not_mem_nil,if_neg (fun z=>q (z.trans ne.symm))]
  have O2:TrOk (⟨c_Node,c_Starts,c_Rounds,c_Members,c_Node,c_Tree⟩:Cl) (upd H n.ql (.lst (rest.map V.ref))) { D with ns:=setN (D.ns.map (chN D.most (Rdy D t) (x :: pre))) { chN D.most (Rdy D t) (x :: pre) n with ps:=rest,qu:=r } }:=O2
  rw [e2] at O2
  have O2:TrOk (⟨c_Node,c_Starts,c_Rounds,c_Members,c_Node,c_Tree⟩:Cl) (upd H n.ql (.lst (rest.map V.ref))) (D.mid t x pre [] g.2):=O2
  have d2':Deed D.foot H (upd H n.ql (.lst (rest.map V.ref))):=zhh (TD.mem_node nin (List.mem_cons_of_mem _ (List.mem_cons_self ..)))
  have h02:upd H n.ql (.lst (rest.map V.ref)) p0=some (.tup (d2 g)):=by rw [zai (ne_of h0 hl (by intro z; cases z))]; exact h0
  refine (show tSeq _ _ _ [some (.ref D.p),some (.str x),some (.int t),some (.ref p0),none] (upd H n.ql (.lst (rest.map V.ref))) from ?_)
  generalize upd H n.ql (.lst (rest.map V.ref))=H2 at O2 d2' h02 ⊢
  clear O N1 hnp hft QL hl hp ft rr h0 e2
  have midf:∀ T':List Str,(D.mid t x pre T' g.2).foot=D.foot:=fun T'=>zpy fun y=>zhj y
  have Um:∀ T':List Str,Up (D.mid t x pre T' g.2).ns x (x :: pre):=fun T'=>zvn zjw (fun y=>by
   unfold midN
   split
   ·exact zvm y
   ·split <;> exact zze y) U
  refine zae fun R hR=>?_
  refine zfg fun Z hZ=>?_
  walk_at "rd"
  obtain ⟨dx,fs,hp,ft⟩:=O2.ex
  refine zav hp (miz ft _) ⟨D.mid t x pre [] g.2,x,x :: pre,rfl,O2,Um [],by omega,fun l H3 s3 fl hl3=>⟨l,rfl,⟨_,.of hl3⟩,hZ _ _ ?_⟩⟩
  clear hZ hp ft
  have fl0:l ∉ D.foot:=by
   have:=O2.free fl
   rw [midf] at this
   exact this
  have d3:Deed D.foot H H3:=d2'.trans s3.deed
  have h03:=s3 _ _ h02
  have O3:=O2.same s3
  clear O2 d2' h02 s3 fl
  have p0n:p0 ∉ D.foot:=by
   have:=O3.notup h03
   rw [midf] at this
   exact this
  refine zfc (K:=K) (a:=l) (xs:=(x :: pre).reverse.map V.str) (fun j σ H'=>∃ v4,σ = [some (.ref D.p),some (.str x),some (.int t),some (.ref p0),v4]/\TrOk (⟨c_Node,c_Starts,c_Rounds,c_Members,c_Node,c_Tree⟩:Cl) H' (D.mid t x pre ((x :: pre).reverse.take j) g.2)/\Deed D.foot H H'/\H' p0=some (.tup (d2 g))/\H' l=some (.lst ((x :: pre).reverse.map V.str))) ⟨none,rfl,O3,d3,h03,hl3⟩ (fun j σ H' _ ⟨_,_,_,_,_,h⟩=>.of h) ?_ ?_
  ·rintro j w0 σ H4 hv ⟨v4,rfl,O4,d4,h04,hl4⟩
   obtain ⟨y,hy,rfl⟩:∃ y,(x :: pre).reverse[j]? = some y/\V.str y=w0:=by
    rw [List.getElem?_map] at hv
    cases e:(x :: pre).reverse[j]? with
    | none=>rw [e] at hv; cases hv
    | some z=>rw [e] at hv; exact ⟨z,rfl,Option.some.inj hv⟩
   have yin:=List.mem_reverse.mp (List.mem_of_getElem? hy)
   obtain ⟨m,hm⟩:=U.mem y yin
   obtain ⟨min,me⟩:=zas hm
   have nd:(x :: pre).reverse.Nodup:=List.pairwise_reverse.mpr (U.nodup.imp Ne.symm)
   have yT:m.nm ∉ (x :: pre).reverse.take j:=fun z=>by
    rw [me] at z
    obtain ⟨i,hi,e⟩:=List.mem_iff_getElem.mp z
    rw [List.length_take] at hi
    rw [List.getElem_take] at e
    obtain ⟨hj,e'⟩:=List.getElem?_eq_some_iff.mp hy
    have:=(List.getElem_inj nd).mp (e.trans e'.symm)
    omega
   have hm4:fndN (D.mid t x pre ((x :: pre).reverse.take j) g.2).ns y=some (midN D.most (Rdy D t) (x :: pre) x ((x :: pre).reverse.take j) t g.2 m):=by
    show fndN (D.ns.map _) y = _
    rw [zjx zjw,hm]; rfl
   obtain ⟨m4in,m4e⟩:=zas hm4
   obtain ⟨dx4,fs4,hp4,ft4⟩:=O4.ex
   show tDrop _ _ [some (.ref D.p),some (.str x),some (.int t),some (.ref p0),some (.str y)] H4
   refine zfl fun N hN=>?_
   walk_at "rd"
   refine zaj hp4 T.cl_Tree T.na_Tree_nodes ft4.no ⟨_,rfl,_,nd_at O4 hm4,?_⟩
   obtain ⟨dm,fm,hmp,hmt⟩:=(O4.nd _ m4in).ex
   refine zav hmp (hmt.no _ (by decide +kernel) (by decide +kernel) (by decide +kernel) (by decide +kernel) (by decide +kernel)) (zbl (.of h04) (v:=.int g.2) rfl ?_)
   have nn4:((D.mid t x pre ((x :: pre).reverse.take j) g.2).ns.map (·.nm)).Nodup:=en _ zjw
   have eqs:=zxe Y G hps (T:=(x :: pre).reverse.take j) min (by rw [me]; exact yin) yT
   have bmid:(midN D.most (Rdy D t) (x :: pre) x ((x :: pre).reverse.take j) t g.2 m).bk=m.bk:=by
    unfold midN
    rw [if_neg yT]
    split <;> exact zsu m
   refine ⟨D.mid t x pre ((x :: pre).reverse.take j) g.2,_,t,g.2,rfl,O4,nn4,m4in,fun c hc=>?_,⟨gb.1,by omega⟩,⟨by omega,by omega⟩,fun b hb=>?_,?_,fun H5 O5 d5=>hN _ _ ⟨_,rfl,?_,fun b o nb e=>?_,?_,?_⟩⟩
   ·
    unfold midN at hc
    rw [if_neg yT] at hc
    by_cases e:m.nm=x
    ·rw [if_pos e] at hc
     have:m=n:=by
      have:=zdy Y.W.nn min
      rw [e,hx] at this
      exact (Option.some.inj this).symm
     subst this
     have hc:(chN D.most (Rdy D t) (x :: pre) m).ch=some c:=hc
     unfold chN at hc
     split at hc
     ·rw [hcx] at hc; cases hc
     ·rw [hcx] at hc; cases hc
    ·rw [if_neg e] at hc
     have hp':m.nm∈pre:=(List.mem_cons.mp (by rw [me]; exact yin:m.nm∈x :: pre)).resolve_left e
     obtain ⟨m',c',z,q1,q2,q3⟩:=G.led.inn m.nm hp'
     rw [zdy Y.W.nn min] at q1
     cases q1
     unfold chN at hc
     rw [if_pos (by rw [me]; exact yin),q2] at hc
     obtain rfl:(c'.1,c'.2.pick1 D.most (Rdy D t))=c:=Option.some.inj hc
     exact (zje (R:=Rdy D t) (len:=g.2) Y min q2 q3).2.2.2.1
   ·rw [bmid] at hb
    obtain ⟨b1,b2⟩:=Y.bk m min b hb
    exact ⟨b1,b2,hbx b.2 (zsw yin hm hb)⟩
   ·first
     | trivial
     | exact zxf nb t x pre _ g.2
   ·have e5:setN (D.ns.map (midN D.most (Rdy D t) (x :: pre) x ((x :: pre).reverse.take j) t g.2)) ((midN D.most (Rdy D t) (x :: pre) x ((x :: pre).reverse.take j) t g.2 m).chg t g.2)=D.ns.map (midN D.most (Rdy D t) (x :: pre) x ((x :: pre).reverse.take (j+1)) t g.2):=by
     refine zhk Y.W.nn zjw min ?_ ?_ fun y' _ q=>?_
     ·show (midN D.most (Rdy D t) (x :: pre) x ((x :: pre).reverse.take j) t g.2 m).nm = _
      exact zjw m
     ·rw [eqs]
      unfold midN
      rw [if_pos (by rw [zeb hy,me]; simp)]
     ·unfold midN
      have:y'.nm∈(x :: pre).reverse.take (j+1)↔y'.nm∈(x :: pre).reverse.take j:=by
       rw [zeb hy,List.mem_append,List.mem_singleton]
       exact ⟨fun z=>z.resolve_right fun w=>q (w.trans me.symm),.inl⟩
      by_cases c:y'.nm∈(x :: pre).reverse.take j
      ·rw [if_pos c,if_pos (this.mpr c)]
      ·rw [if_neg c,if_neg (fun z=>c (this.mp z))]
    have O5:TrOk (⟨c_Node,c_Starts,c_Rounds,c_Members,c_Node,c_Tree⟩:Cl) H5 { D with ns:=setN (D.ns.map (midN D.most (Rdy D t) (x :: pre) x ((x :: pre).reverse.take j) t g.2)) ((midN D.most (Rdy D t) (x :: pre) x ((x :: pre).reverse.take j) t g.2 m).chg t g.2) }:=O5
    rw [e5] at O5
    exact O5
   ·refine d5 b o (fun z=>nb ?_) (d4 b o nb e)
    rw [zhj] at z
    exact TD.mem_node min z
   ·refine d5 _ _ (fun z=>p0n ?_) h04
    rw [zhj] at z
    exact TD.mem_node min z
   ·refine d5 _ _ (fun z=>fl0 ?_) hl4
    rw [zhj] at z
    exact TD.mem_node min z
  ·rintro σ H4 ⟨v4,rfl,O4,d4,h04,hl4⟩
   rw [List.length_map,List.take_length] at O4
   refine hR _ _ ?_
   clear hR
   have e6:D.ns.map (midN D.most (Rdy D t) (x :: pre) x (x :: pre).reverse t g.2)=D.ns.map (stN D.most (Rdy D t) (x :: pre) t g.2):=by
    refine List.map_congr_left fun y _=>?_
    unfold midN
    by_cases c:y.nm∈x :: pre
    ·rw [if_pos (List.mem_reverse.mpr c)]
    ·rw [if_neg (fun z=>c (List.mem_reverse.mp z)),if_neg (fun z=>c (by rw [z]; exact List.mem_cons_self ..))]
     unfold chN L2.stN
     rw [if_neg c,if_neg c]
   have O4:TrOk (⟨c_Node,c_Starts,c_Rounds,c_Members,c_Node,c_Tree⟩:Cl) H4 { D with ns:=D.ns.map (midN D.most (Rdy D t) (x :: pre) x (x :: pre).reverse t g.2) }:=O4
   rw [e6] at O4
   obtain ⟨dx,fs,hp,ft⟩:=O4.ex
   refine zae fun R hR=>?_
   walk_at "rd"
   refine zaj hp T.cl_Tree T.na_Tree_gone ft.go ?_
   refine ⟨zfx O4.go,zbl (.of h04) (v:=.int g.1) rfl fun p fp=>?_⟩
   have s5:=zap (o:=.tup [.int t,.int g.1,.str x]) fp
   have O5:=O4.same s5
   have h05:=s5 _ _ h04
   have h5:upd H4 p (.tup [.int t,.int g.1,.str x]) p=some (.tup (d3V (t,g.1,x))):=zac
   have d5:=d4.trans (s5.deed (S:=D.foot))
   generalize upd H4 p (.tup [.int t,.int g.1,.str x])=H5 at O5 h05 h5 d5 ⊢
   refine zhc O5.go (by rw [List.length_map]; show D.gp.length<1000; omega) (hR _ _ ?_)
   clear hR
   have O6:=O5.gone h5
   have pgin:D.pg∈D.foot:=List.mem_cons_of_mem _ (List.mem_cons_of_mem _ (List.mem_cons_self ..))
   have eg:(HO.lst (D.gp.map V.ref++[V.ref p])) = .lst ((D.gp++[p]).map V.ref):=by rw [List.map_append]; rfl
   have h06:upd H5 D.pg (.lst ((D.gp++[p]).map V.ref)) p0=some (.tup (d2 g)):=by rw [zai (fun z=>p0n (by rw [z]; exact pgin))]; exact h05
   have d6:Deed D.foot H (upd H5 D.pg (.lst ((D.gp++[p]).map V.ref))):=d5.trans (zhh pgin)
   refine (show (_:TS) _ [some (.ref D.p),some (.str x),some (.int t),some (.ref p0),v4] (upd H5 D.pg (.lst (D.gp.map V.ref++[V.ref p]))) from ?_)
   rw [eg]
   have O6:TrOk (⟨c_Node,c_Starts,c_Rounds,c_Members,c_Node,c_Tree⟩:Cl) (upd H5 D.pg (.lst ((D.gp++[p]).map V.ref))) { D with ns:=D.ns.map (L2.stN D.most (Rdy D t) (x :: pre) t g.2),gp:=D.gp++[p],gs:=D.gs++[(t,g.1,x)] }:=O6
   generalize upd H5 D.pg (.lst ((D.gp++[p]).map V.ref))=H6 at O6 h06 d6 ⊢
   obtain ⟨dx6,fs6,hp6,ft6⟩:=O6.ex
   walk_at "rd"
   refine zbl (.of h06) (v:=.int g.2) rfl ?_
   refine ⟨_,rfl,zch hp6 T.cl_Tree T.na_Tree_free (by have:=ft6.len; omega) ?_⟩
   have O7:=O6.field hp6 (ft6.put_fr (fr':=t+g.2))
   exact k p _ O7 (d6.trans (zhh (List.mem_cons_self ..)))
def spMC (C:Cl):Sp:=fun vs H Q _=>∃ (D:TD) (t:Int) (v:Nat),vs = [.ref D.p,.int t]/\TrOk C H D/\D.Dy t v/\(∃ x,May D x t)/\(0<=t/\t<10000000000000000)/\(L2.NoB D)/\D.gp.length<=900/\∀ x pre g p H',Goes D t x pre g->TrOk C H' (D.step (Rdy D t) (x :: pre) x t g p)->Deed D.foot H H'->Q .non H'
theorem zhw (T:Txt K mg c_NoName c_Taken c_NoClass c_NoPlace c_NoShare c_NoLength c_TooEarly c_NoneReady c_Members c_Chooser c_Starts c_Rounds c_Node c_Tree):MethD P w K mg base (CXX P w) 8 c_Tree "make_choice" ["self", "at"] [[]] (spMC (⟨c_Node,c_Starts,c_Rounds,c_Members,c_Node,c_Tree⟩:Cl)):=by
 have M_Tree_ready_at:=zkm (P:=P) (w:=w) (base:=base) T
 have M_Starts_choose:=zki (P:=P) (w:=w) (base:=base) T
 have M_Rounds_choose:=zkk (P:=P) (w:=w) (base:=base) T
 have M_Starts_names:=zgn (P:=P) (w:=w) (base:=base) T
 have M_Rounds_names:=zkz (P:=P) (w:=w) (base:=base) T
 have M_Tree_send_first:=zio (P:=P) (w:=w) (base:=base) T
 refine T.me_Tree_make_choice.okN (k:=7) sc_Tree_make_choice (fun vs H Q E h=>?_) (fun f cdv A outer s H vs Q E hr h=>?_)
 ·obtain ⟨D,t,v,rfl,_⟩:=h
  rfl
 ·obtain ⟨D,t,v,rfl,O,Y,my,tb,nb,gl,k⟩:=h
  refine ⟨_,(zad (zbc (i:=2) sc_Tree_make_choice.nd rfl (by first|left;rfl|right;rfl) (zar (dvs:=[]) M_Tree_ready_at (by simp) T.cl_Tree (hr.mono (by decide)) passN (pv 0) (zaa (pv 1) zaf))) (zad (zbc (i:=3) sc_Tree_make_choice.nd rfl (by first|left;rfl|right;rfl) (zgh rfl T.mg_ROAD)) (zad (zjb PassesOwn.never (zba zfq (zaq (zdd (hu_of hr) (zaq (pv 0) rfl) (pv 3) (fun _ _=>rfl)) rfl) zdn (zbk _)) (zad (zbc (i:=4) sc_Tree_make_choice.nd rfl (by first|left;rfl|right;rfl) (zaq (zdd (hu_of hr) (zaq (pv 0) rfl) (pv 3) (fun _ _=>rfl)) rfl)) (zah (zbc (i:=3) sc_Tree_make_choice.nd rfl (by first|left;rfl|right;rfl) (znk (zar (dvs:=[]) M_Starts_choose (by simp) T.cl_Starts (hr.mono (by decide)) passN (pv 4) (zaa (pe_lc ["child"] [("ready", 2)] rfl (by with_unfolding_all rfl) (by decide +kernel) rfl (by decide +kernel) (by exact ⟨rfl,True.intro⟩) (by with_unfolding_all rfl) ⟨⟨rfl,rfl,rfl⟩,True.intro⟩ (zcr K rfl (znk (zci (dvs:=[]) M_Starts_names (by simp) T.cl_Starts (hr.mono (by decide)) passN (pv 4)) (zci (dvs:=[]) M_Rounds_names (by simp) T.cl_Rounds (hr.mono (by decide)) passN (pv 4)))) (fun _ _ _=>(zbm (i:=0) (show (["child", "ready"]:List Str).Nodup from by decide +kernel) rfl (by first|left;rfl|right;rfl))) (fun _ _ _=>(zha (zjh (zpl (hu_of hr) (pv 0) (pv 1))))) (fun _ _ _=>(pv 0))) zaf)) (zar (dvs:=[]) M_Rounds_choose (by simp) T.cl_Rounds (hr.mono (by decide)) passN (pv 4) (zaa (pe_lc ["child"] [("ready", 2)] rfl (by with_unfolding_all rfl) (by decide +kernel) rfl (by decide +kernel) (by exact ⟨rfl,True.intro⟩) (by with_unfolding_all rfl) ⟨⟨rfl,rfl,rfl⟩,True.intro⟩ (zcr K rfl (znk (zci (dvs:=[]) M_Starts_names (by simp) T.cl_Starts (hr.mono (by decide)) passN (pv 4)) (zci (dvs:=[]) M_Rounds_names (by simp) T.cl_Rounds (hr.mono (by decide)) passN (pv 4)))) (fun _ _ _=>(zbm (i:=0) (show (["child", "ready"]:List Str).Nodup from by decide +kernel) rfl (by first|left;rfl|right;rfl))) (fun _ _ _=>(zha (zjh (zpl (hu_of hr) (pv 0) (pv 1))))) (fun _ _ _=>(pv 0))) zaf))))))) (zah (zay (zar (dvs:=[]) M_Tree_send_first (by simp) T.cl_Tree (hr.mono (by decide)) passN (pv 0) (zaa (pv 3) (zaa (pv 1) zaf)))))))),?_⟩
  show tSeq _ _ _ [some (.ref D.p),some (.int t),none,none,none] H
  obtain ⟨dx,fs,hp,ft⟩:=O.ex
  have hps:∀ n∈D.ns,n.ch≠none->n.qu = []/\n.ps = []:=fun n nin hc=>Lv.ps O Y.lv nin hc
  refine zae fun R hR=>?_
  walk_at "rd"
  refine zav hp (miz ft _) ⟨D,t,v,rfl,O,Y,tb,nb,fun l ks H1 s1 fl hl kk=>hR _ _ ?_⟩
  clear hR hp ft
  have fl0:l ∉ D.foot:=O.free fl
  have O1:=O.same s1
  refine zae fun R hR=>?_
  walk_at "rd"
  refine hR _ _ ?_
  clear hR
  have e0:D.ask t [] = D:=by
   unfold TD.ask
   have:D.ns.map (chN D.most (Rdy D t) [])=D.ns:=by
    conv=>rhs; rw [<- List.map_id D.ns]
    exact List.map_congr_left fun y _=>zwz y
   rw [this]
  obtain ⟨rn,hr0,ra0,rc0⟩:=Y.W.rdN
  refine zae fun R hR=>?_
  refine zoi (fun m σ H'=>∃ y pre v4,σ = [some (.ref D.p),some (.int t),some (.ref l),some (.str y),v4]/\TrOk (⟨c_Node,c_Starts,c_Rounds,c_Members,c_Node,c_Tree⟩:Cl) H' (D.ask t pre)/\Deed D.foot H H'/\H' l=some (.dK (rdK ks))/\Led D.ns (Rdy D t) pre y/\Rdy D t y/\Up D.ns y (y :: pre)/\m+pre.length = 6) (m0:=6) ⟨road,[],none,rfl,by rw [e0]; exact O1,s1.deed,hl,.nil,my.elim fun x m=>m.road Y.W,.top hr0 ra0,rfl⟩ ?_
  rintro m σ H2 ⟨y,pre,v4,rfl,O2,d2',hl2,ld,rdy,U,hm⟩
  obtain ⟨n,hy⟩:=U.fnd
  obtain ⟨nin,ne⟩:=zas hy
  have nd:=U.nodup
  rw [List.nodup_cons] at nd
  have cn:chN D.most (Rdy D t) pre n=n:=by unfold chN; rw [if_neg (by rw [ne]; exact nd.1)]
  have hy2:fndN (D.ask t pre).ns y=some n:=by
   show fndN (D.ns.map _) y = _
   rw [zjx zhi,hy]
   exact congrArg some cn
  obtain ⟨n2in,_⟩:=zas hy2
  have N2:=O2.nd n n2in
  obtain ⟨dn,fn,hnp,hft⟩:=N2.ex
  obtain ⟨dx,fs,hp,ft⟩:=O2.ex
  have ul:(y :: pre).length<=6:=by
   obtain ⟨ys,U',l'⟩:=Y.W.up n nin
   rw [ne] at U'
   rw [U.det U']; exact l'
  rw [List.length_cons] at ul
  cases hc:n.ch with
  | none =>
   refine ⟨false,fun Q hQ=>?_,fun z=>(by cases z),fun _=>hR _ _ ?_⟩
   ·walk_at "rd"
    refine zaj hp T.cl_Tree T.na_Tree_nodes ft.no ⟨_,rfl,_,nd_at O2 hy2,?_⟩
    refine zaj hnp T.cl_Node T.na_Node_chooser hft.ch ?_
    rw [hc]
    exact hQ
   ·clear hR
    have may:=rdy.leaf Y.W hy hc
    obtain ⟨n',ys,g,r,q1,q2,q3,q4⟩:=may
    rw [hy] at q1
    cases q1
    rw [<- U.det q3] at q4
    have G:Goes D t y pre g:=⟨ld,⟨n,ys,g,r,hy,q2,q3,by rw [<- U.det q3]; exact q4⟩,U,n,r,hy,hc,q2,q4⟩
    have O2:TrOk (⟨c_Node,c_Starts,c_Rounds,c_Members,c_Node,c_Tree⟩:Cl) H2 { D with ns:=D.ns.map (chN D.most (Rdy D t) pre) }:=O2
    rw [zum Y.W.nn hy hc] at O2
    walk_at "rd"
    exact zav hp (miz ft _) ⟨D,t,y,pre,g,v,rfl,O2,hps,Y,G,tb,nb,gl,fun p H3 O3 d3=>k y pre g p H3 G O3 (d2'.trans d3)⟩
  | some c =>
   refine ⟨true,fun Q hQ=>?_,fun _=>?_,fun z=>by cases z⟩
   ·walk_at "rd"
    refine zaj hp T.cl_Tree T.na_Tree_nodes ft.no ⟨_,rfl,_,nd_at O2 hy2,?_⟩
    refine zaj hnp T.cl_Node T.na_Node_chooser hft.ch ?_
    rw [hc]
    exact hQ
   ·clear hR
    rw [hc] at hft
    refine zae fun R hR=>?_
    walk_at "rd"
    refine zaj hp T.cl_Tree T.na_Tree_nodes ft.no ⟨_,rfl,_,nd_at O2 hy2,?_⟩
    refine zaj hnp T.cl_Node T.na_Node_chooser hft.ch (hR _ _ ?_)
    clear hR
    obtain ⟨a,cs⟩:=c
    have rne:=rdy.child Y.W Y.lv hy hc
    have sub:∀ z∈rdl cs (Rdy D t),shOf cs.nm z≠none:=fun z hz=>Sw.sh_mem.mpr (mem_rdl.mp hz).1
    have cok:=Y.W.cok n nin _ hc
    obtain ⟨f1,f2⟩:=Y.fin n nin _ hc
    have bud:=Y.bud
    have kl:=Y.W.kid_len nin hc
    have nln:=Y.ln
    have CS:=N2.ch _ hc
    have rf:=zqp (c:=cs) kk
    have af:∀ b∈five a,b∈D.foot:=fun b hb=>TD.mem_node nin (by
     unfold ND.foot
     rw [hc]
     exact List.mem_cons_of_mem _ (List.mem_cons_of_mem _ (List.mem_append.mpr (.inl hb))))
    refine zfl fun N hN=>?_
    have post:∀ z H3,cs.pickN (rdl cs (Rdy D t))=some z->∀ H2',Same H2 H2'->Own a H2' H3->ChS c_Starts c_Rounds c_Members H3 a D.most (cs.chosen D.most (rdl cs (Rdy D t)) z)->N [some (.ref D.p),some (.int t),some (.ref l),some (.str z),some (.ref a.p)] H3:=fun z H3 hz H2' s2 ow C3=>hN _ _ (by
     have O2':=O2.same s2
     have O3:=O2'.chooser (by
      show ((D.ns.map (chN D.most (Rdy D t) pre)).map (fun x:ND=>x.nm)).Nodup
      rw [List.map_map]
      have:D.ns.map ((fun x:ND=>x.nm) ∘ chN D.most (Rdy D t) pre)=D.ns.map (·.nm):=List.map_congr_left fun y _=>zhi y
      rw [this]; exact Y.W.nn) n2in hc ow C3
     have e3:setN (D.ns.map (chN D.most (Rdy D t) pre)) { n with ch:=some (a,cs.chosen D.most (rdl cs (Rdy D t)) z) } = D.ns.map (chN D.most (Rdy D t) (y :: pre)):=by
      refine zhk Y.W.nn zhi nin rfl ?_ fun y' _ q=>?_
      ·unfold chN
       rw [if_pos (by rw [ne]; exact List.mem_cons_self ..),hc]
       show ({ n with ch:=some (a,cs.pick1 D.most (Rdy D t)) }:ND) = _
       rw [(zje (R:=Rdy D t) (len:=1) Y nin hc hz).1]
      ·unfold chN
       have:y'.nm∈y :: pre↔y'.nm∈pre:=by
        rw [List.mem_cons]
        exact ⟨fun w=>w.resolve_left fun u=>q (u.trans ne.symm),.inr⟩
       by_cases c':y'.nm∈pre
       ·rw [if_pos c',if_pos (this.mpr c')]
       ·rw [if_neg c',if_neg (fun w=>c' (this.mp w))]
     have O3:TrOk (⟨c_Node,c_Starts,c_Rounds,c_Members,c_Node,c_Tree⟩:Cl) H3 { D with ns:=setN (D.ns.map (chN D.most (Rdy D t) pre)) { n with ch:=some (a,cs.chosen D.most (rdl cs (Rdy D t)) z) } }:=O3
     rw [e3] at O3
     have zin:=zjz hz
     obtain ⟨z1,z2⟩:=mem_rdl.mp zin
     rw [Y.W.kid n nin _ hc,ne] at z1
     obtain ⟨mz,hmz,ea⟩:=zwy Y.W.nn z1
     have Uz:Up D.ns z (z :: y :: pre):=.on hmz ea U
     have zl:(z :: y :: pre).length<=6:=by
      obtain ⟨ys,U',l'⟩:=Y.W.up mz (zas hmz).1
      rw [(zas hmz).2] at U'
      rw [Uz.det U']; exact l'
     rw [List.length_cons,List.length_cons] at zl
     refine ⟨m-1,by omega,z,y :: pre,_,rfl,O3,(d2'.trans s2.deed).trans (ow.deed.mono af),ow.deed _ _ (fun w=>fl0 (af _ w)) (s2 _ _ hl2),.snoc ld hy hc hz,z2,Uz,by rw [List.length_cons]; omega⟩)
    clear hN
    have cmp:∀ (Hn:Hp) (ln:Addr) (Z:VK),Same H2 Hn->Hn ln=some (.lst (nmV cs.nm))->∀ L,Hn L=none->(∀ H',Same Hn H'->H' L=some (.lst ((rdl cs (Rdy D t)).map V.str))->Z (.ref L) H')->CompG (Itl K ln) (gName 0) (tB (tDIn (tVar 0) (tVar 1))) (tVar 0) L [none,some (.ref l)] (upd Hn L (.lst [])) Z:=fun Hn ln Z sn hln L hL kz=>by
     have ev:nmV cs.nm=(cs.nm.map (·.1)).map V.str:=by unfold nmV; rw [List.map_map]; rfl
     rw [ev] at hln
     have nll:(cs.nm.map (·.1)).length<=60:=by rw [List.length_map]; exact Nat.le_trans kl nln
     have hln2:=sn _ _ hl2
     refine zei (K:=K) (a:=ln) (xs:=(cs.nm.map (·.1)).map V.str) (fun i τ H'=>(∃ v0,τ = [v0,some (.ref l)])/\Same Hn H'/\H' L=some (.lst ((((cs.nm.map (·.1)).take i).filter fun y=>decide (y∈ks)).map V.str))) ⟨⟨none,rfl⟩,zap hL,zac⟩ (fun i τ H' _ h=>.of (h.2.1 _ _ hln)) ?_ ?_
     ·rintro i w0 τ H5 hv ⟨⟨v0,rfl⟩,s5,hL5⟩
      obtain ⟨z,hz,rfl⟩:∃ z,(cs.nm.map (·.1))[i]? = some z/\V.str z=w0:=by
       rw [List.getElem?_map] at hv
       cases e:(cs.nm.map (·.1))[i]? with
       | none=>rw [e] at hv; cases hv
       | some z=>rw [e] at hv; exact ⟨z,rfl,Option.some.inj hv⟩
      have dg:=DGet.k (k:=Sum.inr z) (s5 _ _ hln2)
      have dv:=zxb ks z
      walk_at "rd"
      refine ⟨_,dg,?_⟩
      rw [dv,zeb hz,List.filter_append,List.filter_cons,List.filter_nil]
      by_cases c:z∈ks
      ·rw [if_pos (decide_eq_true c),if_pos (decide_eq_true c)]
       refine ⟨_,hL5,zeq ?_,fun b u' e=>?_,?_⟩
       ·rw [List.length_map]
        have:=List.length_filter_le (fun y=>decide (y∈ks)) ((cs.nm.map (·.1)).take i)
        rw [List.length_take] at this
        omega
       ·rw [zai (zan e hL)]; exact s5 _ _ e
       ·rw [zac,List.map_append]; rfl
      ·rw [if_neg (by simp [c]),if_neg (by simp [c]),List.append_nil]
       exact ⟨s5,hL5⟩
     ·rintro τ H5 ⟨_,s5,hL5⟩
      rw [List.length_map,List.take_length,<- rf] at hL5
      exact kz H5 s5 hL5
    walk_at "rd"
    cases cs with
    | st nm tg gs ck ch M =>
     refine .inl ?_
     walk_at "rd"
     have S:Sx c_Starts c_Members H2 a D.most nm tg gs ck ch M:=CS
     obtain ⟨dx',fs',pr,hp',ft',hr'⟩:=S.ex
     refine zav hp' (ft'.no _ (by decide +kernel) (by decide +kernel) (by decide +kernel) (by decide +kernel) (by decide +kernel) (by decide +kernel)) (.inl ?_)
     walk_at "rd"
     refine zav hp' (ft'.no _ (by decide +kernel) (by decide +kernel) (by decide +kernel) (by decide +kernel) (by decide +kernel) (by decide +kernel)) ⟨a,D.most,nm,tg,gs,ck,ch,M,rfl,S,fun ln fln=>⟨ln,rfl,⟨_,.of zac⟩,fun L hL=>?_⟩⟩
     have sn:=zap (o:=.lst (nmV nm)) fln
     refine cmp _ ln _ sn zac L hL fun H4 s4 hL4=>?_
     have s24:=sn.trans s4
     have S4:=S.same s24
     obtain ⟨G,g0,gz,⟨c1,c2,c3⟩,ht,hg⟩:=f1
     have tfo:∀ z∈nm.map (·.1),tg z=some ((tg z).getD 0)/\Sw.SzQ 5000 ((tg z).getD 0):=fun z hz=>by
      obtain ⟨tz,gz',e1,_⟩:=cok.2 z (Sw.sh_mem.mpr hz)
      rw [e1]
      obtain ⟨t1,t2,t3⟩:=ht z tz e1
      exact ⟨rfl,(zol (by omega) g0 gz t1 t2 t3).mono (by decide)⟩
     refine ⟨a,D.most,nm,tg,gs,ck,ch,M,L,rdl (.st nm tg gs ck ch M) (Rdy D t),fun z=>(tg z).getD 0,rfl,S4,hL4,?_,tfo,(zol (by omega) g0 gz c1 c2 c3).mono (by decide),fun z=>absurd z rne,fun _ ⟨z,hz,e⟩=>absurd e (sub z hz),fun _ _ z H5 hz ow S5=>post z H5 hz H4 s24 ow S5⟩
     have:nm.length<=D.ns.length:=kl
     omega
    | rd nm q rs tu ch =>
     refine .inr ?_
     walk_at "rd"
     have S:Rx c_Rounds c_Members H2 a D.most nm q rs tu ch:=CS
     refine S.meth (by decide +kernel) (.inr ?_)
     walk_at "rd"
     refine S.meth (by decide +kernel) ⟨a,D.most,nm,q,rs,tu,ch,rfl,S,fun ln fln=>⟨ln,rfl,⟨_,.of zac⟩,fun L hL=>?_⟩⟩
     have sn:=zap (o:=.lst (nmV nm)) fln
     refine cmp _ ln _ sn zac L hL fun H4 s4 hL4=>?_
     have s24:=sn.trans s4
     have S4:=S.same s24
     have nl9:nm.length<=90:=by
      have:nm.length<=D.ns.length:=kl
      omega
     refine ⟨a,D.most,nm,q,rs,tu,ch,L,rdl (.rd nm q rs tu ch) (Rdy D t),rfl,S4,hL4,fun z=>absurd z rne,fun _ ⟨z,hz,e⟩=>absurd e (sub z hz),fun _ _=>⟨⟨cok.2,Y.W.m1.2,nl9,fun z hz=>cok.1.ok z hz,hL4,fun e=>?_,rne,sub⟩,fun z H5 hz ow S5=>post z H5 hz H4 s24 ow S5⟩⟩
     rw [e] at hL
     rw [sn _ _ S.hq] at hL
     cases hL
def spUn (cE:Addr) (C:Cl):Sp:=fun vs H Q E=>∃ (D:TD) (t:Int) (v:Nat),vs = [.ref D.p,.int t]/\TrOk C H D/\D.Dy D.tm v/\(0<=D.tm/\D.tm<=1000000000000000/\D.fr<=1000000000000000/\t<=1000000000000000)/\(L2.NoB D)/\(t<D.tm->Rs cE H E)/\(D.tm<=t->∀ D' H',Runs t D D'->D'.foot=D.foot->TrOk C H' { D' with tm:=t }->Deed D.foot H H'->Q .non H')
theorem zix (T:Txt K mg c_NoName c_Taken c_NoClass c_NoPlace c_NoShare c_NoLength c_TooEarly c_NoneReady c_Members c_Chooser c_Starts c_Rounds c_Node c_Tree):MethD P w K mg base (CXX P w) 9 c_Tree "until" ["self", "at"] [[]] (spUn c_TooEarly (⟨c_Node,c_Starts,c_Rounds,c_Members,c_Node,c_Tree⟩:Cl)):=by
 have M_Tree_next_choice:=zhv (P:=P) (w:=w) (base:=base) T
 have M_Tree_make_choice:=zhw (P:=P) (w:=w) (base:=base) T
 refine T.me_Tree_until.okX (k:=8) sc_Tree_until (fun vs H Q E h=>?_) (fun f cdv A outer s H vs Q E hr h=>?_)
 ·obtain ⟨D,t,v,rfl,_⟩:=h
  rfl
 ·obtain ⟨D0,t,v,rfl,O,Y,tb,nb0,ke,k⟩:=h
  refine ⟨_,(zad (ps_if (zba op_lt (pv 1) (zaq (pv 0) rfl) (zbk _)) (zah (zcs K rfl rfl zek (zel T.ex_TooEarly T.kp_TooEarly rfl T.mg_TooEarly (zaa zbz zaf)))) zbb) (zad (zbc (i:=2) sc_Tree_until.nd rfl (by first|left;rfl|right;rfl) (zci (dvs:=[]) M_Tree_next_choice (by simp) T.cl_Tree (hr.mono (by decide)) passF (pv 0))) (zad (zjb PassesOwn.leaving (PW.pt (zlc (zba zfq (pv 2) zdn (zbk _)) (zji (zba op_lt (pv 2) (pv 1) (zbk _))))) (zad (zay (zar (dvs:=[]) M_Tree_make_choice (by simp) T.cl_Tree (hr.mono (by decide)) passF (pv 0) (zaa (pv 2) zaf))) (zah (zbc (i:=2) sc_Tree_until.nd rfl (by first|left;rfl|right;rfl) (zci (dvs:=[]) M_Tree_next_choice (by simp) T.cl_Tree (hr.mono (by decide)) passF (pv 0)))))) (zah (zcg (pv 0) (pv 1) rfl))))),?_⟩
  show tSeq _ _ _ [some (.ref D0.p),some (.int t),none] H
  obtain ⟨dx,fs,hp,ft⟩:=O.ex
  refine zae fun R hR=>?_
  walk_at "rd"
  refine zaj hp T.cl_Tree T.na_Tree_time ft.ti ⟨_,rfl,ite2 (fun c=>rs_of (ke c) T.xc_TooEarly) fun c=>hR _ _ ?_⟩
  clear hR
  have t0:D0.tm<=t:=by omega
  have k:=k t0
  refine zae fun R hR=>?_
  walk_at "rd"
  have inv:∀ (D:TD) (Hx:Hp) (τ:Int) (Z:V->Hp->Prop),D.p=D0.p->D.tm=D0.tm->TrOk (⟨c_Node,c_Starts,c_Rounds,c_Members,c_Node,c_Tree⟩:Cl) Hx D->D.Dy τ v->(τ<=D.tm\/τ<=D.fr)->D.fr<=2000000000000000->(L2.NoB D)->(∀ sv H',Same Hx H'->((sv = .non/\Rest D t)\/∃ a,sv = .int a/\Nx D a/\a<=4000000000000000)->Z sv H')->rMeth c_Tree (Str.ofString "next_choice") (.ref D0.p) Hx (spNC (⟨c_Node,c_Starts,c_Rounds,c_Members,c_Node,c_Tree⟩:Cl) [.ref D0.p] Hx Z fun v d H'=>E v d H'):=fun D Hx τ Z ep et O Y tv fb nb kz=>by
   obtain ⟨dx,fs,hp,ft⟩:=O.ex
   rw [ep] at hp
   refine zav hp (miz ft _) ⟨D,τ,v,by rw [ep],O,Y,tv,⟨by omega,by omega,by omega⟩,nb,fun e H' s'=>kz _ H' s' (.inl ⟨rfl,fun x u _ _ m=>?_⟩),fun a na la H' s'=>kz _ H' s' (.inr ⟨a,rfl,na,by omega⟩)⟩
   have:=Y.full O m
   rw [e] at this; cases this
  refine inv D0 H D0.tm _ rfl rfl O Y (.inl (Int.le_refl _)) (by omega) nb0 fun sv H1 s1 hsv=>hR _ _ ?_
  clear hR hp ft
  refine zae fun R hR=>?_
  refine zoi (fun m σ H'=>∃ (D:TD) (τ:Int) (sv:V),σ = [some (.ref D0.p),some (.int t),some sv]/\D.p=D0.p/\D.tm=D0.tm/\TrOk (⟨c_Node,c_Starts,c_Rounds,c_Members,c_Node,c_Tree⟩:Cl) H' D/\D.Dy τ v/\(τ<=D.tm\/τ<=D.fr)/\D.fr<=2000000000000000/\(L2.NoB D)/\((sv = .non/\Rest D t)\/∃ a,sv = .int a/\Nx D a/\a<=4000000000000000)/\D.foot=D0.foot/\Deed D0.foot H H'/\(∀ D',Runs t D D'->Runs t D0 D')/\m=waits D.ns) (m0:=waits D0.ns) ⟨D0,D0.tm,sv,rfl,rfl,rfl,O.same s1,Y,.inl (Int.le_refl _),by omega,nb0,hsv,rfl,s1.deed,fun _ h=>h,rfl⟩ ?_
  rintro m σ H2 ⟨D,τ,sv,rfl,ep,et,O2,Y2,tv,fb,nb,hsv,ef,d2',rn,rfl⟩
  have fin:Rest D t->R [some (.ref D0.p),some (.int t),some sv] H2:=fun rs=>hR _ _ (by
   obtain ⟨dx,fs,hp,ft⟩:=O2.ex
   have hp':=hp
   rw [ep] at hp
   walk_at "rd"
   refine zch hp T.cl_Tree T.na_Tree_time (by have:=ft.len; omega) ?_
   have O3:=O2.field hp' (ft.put_ti (tm':=t))
   have eh:upd H2 D.p (.ins c_Tree dx (putF "time" (.int t) fs))=upd H2 D0.p (.ins c_Tree dx (putF "time" (.int t) fs)):=by rw [ep]
   have O3:TrOk (⟨c_Node,c_Starts,c_Rounds,c_Members,c_Node,c_Tree⟩:Cl) (upd H2 D.p (.ins c_Tree dx (putF "time" (.int t) fs))) { D with tm:=t }:=O3
   rw [eh] at O3
   exact k D _ (rn D (.stop rs)) ef O3 (d2'.trans (zhh (List.mem_cons_self ..))))
  rcases hsv with ⟨rfl,rs⟩ | ⟨a,rfl,na,ab⟩
  ·refine ⟨false,fun Q hQ=>?_,fun z=>(by cases z),fun _=>fin rs⟩
   walk_at "rd"
   exact hQ
  ·by_cases c:a<t
   ·refine ⟨true,fun Q hQ=>?_,fun _=>?_,fun z=>by cases z⟩
    ·walk_at "rd"
     rw [decide_eq_true c]
     exact hQ
    ·clear hR fin
     obtain ⟨dx,fs,hp,ft⟩:=O2.ex
     have hp':=hp
     rw [ep] at hp
     obtain ⟨g1,g2⟩:=na.ge
     have Ya:=Y2.mono (τ':=a) (by omega)
     refine zae fun R hR=>?_
     walk_at "rd"
     refine zav hp (miz ft _) ⟨D,a,v,by rw [ep],O2,Ya,na.may,⟨by omega,by omega⟩,nb,?_,fun x pre g p H3 G O3 d3=>hR _ _ ?_⟩
     ·have:=O2.gr.length
      have:=Y2.bud
      omega
     ·clear hR
      obtain ⟨Y3,wl⟩:=G.dy Ya (Int.le_refl _) p
      obtain ⟨nx,r,hx,_,hqx,_⟩:=G.q
      have gb:=Y2.qu nx (zas hx).1 g (by rw [hqx]; exact List.mem_cons_self ..)
      have m6:=Y2.W.m1.2
      refine zfl fun N hN=>?_
      walk_at "rd"
      refine inv (D.step (Rdy D a) (x :: pre) x a g p) H3 a _ ep et O3 Y3 (.inr ?_) ?_ ?_ fun sv H4 s4 hsv=>hN _ _ ⟨_,?_,D.step (Rdy D a) (x :: pre) x a g p,a,sv,rfl,ep,et,O3.same s4,Y3,.inr ?_,?_,?_,hsv,step_foot.trans ef,?_,fun D' h=>rn D' (.go na c G h),rfl⟩
      ·show a<=a+g.2
       omega
      ·show a+g.2<=_
       omega
      ·first
        | trivial
        | exact zjf nb _ _ _ _ _ _
      ·omega
      ·show a<=a+g.2
       omega
      ·show a+g.2<=_
       omega
      ·first
        | trivial
        | exact zjf nb _ _ _ _ _ _
      ·rw [ef] at d3
       exact (d2'.trans d3).trans s4.deed
   ·refine ⟨false,fun Q hQ=>?_,fun z=>(by cases z),fun _=>fin (na.rest (by omega))⟩
    walk_at "rd"
    rw [decide_eq_false c]
    exact hQ
theorem pickV {K:PySem.W.Frag} {H:Hp} {t:Addr} {i:Int} {Q:VK} (xs:List V) (h0:0<=i) (h1:i<xs.length) (k:∀ v∈xs,Q v (upd H t (.lst xs))):rIxL K (.ref t) (.int i) (upd H t (.lst xs)) Q:=by
 have e:=zga (xs:=xs) (j:=i.toNat) (v:=xs[i.toNat]'(by omega)) (List.getElem?_eq_getElem (by omega))
 rw [Int.toNat_of_nonneg h0] at e
 exact zjp (.of zac) e (k _ (List.getElem_mem _))
theorem zxs (xs:List V) (lo hi:Nat):(cutV xs (some (lo:Int)) (some (hi:Int))).length<=hi-lo:=by
 unfold cutV
 rw [HT.sIx_nat,HT.sIx_nat,List.length_take]
 omega
def PutOk (C:Cl) (D:TD) (x u kd:Str) (s:Int) (rm:V) (H H':Hp) (D':TD):Prop:=∃ (un:ND) (c:At5×CSt) (n:ND),D'=D.put un c s n/\fndN D.ns u=some un/\un.ch=some c/\n.nm=x/\n.ab=some u/\n.rm=rm/\n.bk=none/\n.ps = []/\n.qu = []/\(kd=Str.ofString "leaf" -> n.ch=none)/\(Inner kd->∃ a,n.ch=some (a,CSt.new (kdB kd)))/\(∀ b∈n.foot,H b=none)/\TrOk C H' D'/\Deed D.foot H H'
theorem zoq {D:TD} {x u kd:Str} {s:Int} {rm:V} (h:dueP D x u kd s rm=none):zej x/\fndN D.ns x=none/\(∃ n,fndN D.ns u=some n/\kdOk kd/\n.ch≠none/\∀ ys,Up D.ns u ys->ys.length<=5)/\(1<=s/\s<=1000000):=by
 by_cases c1:zej x
 case neg=>rw [zpt c1] at h; cases h
 cases hx:fndN D.ns x with
 | some v=>rw [znm c1 (by rw [hx]; simp)] at h; cases h
 | none =>
 cases hu:fndN D.ns u with
 | none=>rw [zsm c1 hx hu] at h; cases h
 | some n =>
 by_cases c2:kdOk kd/\n.ch≠none/\∀ ys,Up D.ns u ys->ys.length<=5
 case neg=>rw [znn c1 hx hu c2] at h; cases h
 by_cases c3:1<=s/\s<=1000000
 case neg=>rw [zno c1 hx hu c2 c3] at h; cases h
 exact ⟨c1,rfl,⟨n,rfl,c2⟩,c3⟩
theorem zmi {x:Str} (h:zej x):PyData.strOk x=true/\x.length<=8:=by
 refine ⟨?_,h.1.2⟩
 rw [zzb]
 intro c hc
 have:∀ c∈lets.cps.toList,c<1114112:=by decide +kernel
 exact this c (h.2 c hc)
theorem PutOk.wf {C:Cl} {D D':TD} {x u kd:Str} {s:Int} {rm:V} {H H':Hp} (h:PutOk C D x u kd s rm H H' D') (W:D.Wf) (d:dueP D x u kd s rm=none):D'.Wf:=by
 obtain ⟨un,c,n,rfl,hu,hc,h1,h2,h3,h4,h5,h6,h7,h8,h9,h10,h11⟩:=h
 obtain ⟨nok,hx,⟨n',hu',ok,_,dp⟩,sh⟩:=zoq d
 rw [hu] at hu'; cases hu'
 obtain ⟨uin,une⟩:=zas hu
 have nx:shOf c.2.nm x=none:=by
  rw [Sw.sh_none,W.kid un uin c hc]
  intro z
  unfold kids at z
  obtain ⟨y,hy,e⟩:=List.mem_map.mp z
  exact fnd_none.mp hx (List.mem_map.mpr ⟨y,(List.mem_filter.mp hy).1,e⟩)
 have so:=zmi nok
 subst h1
 refine W.put uin hc rfl ((W.cok un uin c hc).put nx sh.1 sh.2 so.1) hx (by rw [h2,une]) (fun ys U=>dp ys (by rw [<- une]; exact U)) (fun d hd=>?_) so
 rcases ok with z | z
 ·rw [h7 z] at hd; cases hd
 ·obtain ⟨a,e⟩:=h8 z
  rw [e] at hd; cases hd
  exact ⟨CSt.nm_new _,CSt.Ok.new W.m1.1 _⟩
theorem zfw {ns:List ND} {n y:ND} (h:y∈setN ns n):y=n\/(y∈ns/\y.nm≠n.nm):=by
 unfold setN at h
 obtain ⟨z,hz,q⟩:=List.mem_map.mp h
 split at q
 ·exact .inl q.symm
 ·rename_i k
  exact .inr ⟨q ▸ hz,q ▸ k⟩
theorem PutOk.foot {C:Cl} {D D':TD} {x u kd:Str} {s:Int} {rm:V} {H H':Hp} (h:PutOk C D x u kd s rm H H' D'):∀ b∈D'.foot,b∈D.foot\/H b=none:=by
 obtain ⟨un,c,n,rfl,hu,hc,h1,h2,h3,h4,h5,h6,h7,h8,h9,h10,h11⟩:=h
 intro b hb
 obtain ⟨uin,une⟩:=zas hu
 unfold TD.foot at hb
 rcases List.mem_cons.mp hb with z | hb
 ·exact .inl (z ▸ List.mem_cons_self ..)
 rcases List.mem_cons.mp hb with z | hb
 ·exact .inl (z ▸ List.mem_cons_of_mem _ (List.mem_cons_self ..))
 rcases List.mem_cons.mp hb with z | hb
 ·exact .inl (z ▸ List.mem_cons_of_mem _ (List.mem_cons_of_mem _ (List.mem_cons_self ..)))
 obtain ⟨y,hy,z⟩:=List.mem_flatMap.mp hb
 rcases List.mem_append.mp hy with hy | hy
 ·rcases zfw hy with q | q
  ·left
   refine TD.mem_node uin ?_
   rw [q] at z
   unfold ND.foot at z ⊢
   rw [hc]; exact z
  ·exact .inl (TD.mem_node q.1 z)
 ·rw [List.mem_singleton.mp hy] at z
  exact .inr (h9 b z)
theorem PutOk.len {C:Cl} {D D':TD} {x u kd:Str} {s:Int} {rm:V} {H H':Hp} (h:PutOk C D x u kd s rm H H' D'):D'.ns.length=D.ns.length+1:=by
 obtain ⟨un,c,n,rfl,_⟩:=h
 show (setN D.ns _++[n]).length = _
 rw [List.length_append]
 unfold setN
 rw [List.length_map]; rfl
theorem zvq (c:CSt) (x:Str) (s:Int):(c.put x s).sz<=c.sz+3:=by
 cases c with
 | st=>exact Nat.le_refl _
 | rd nm q rs tu ch =>
  show (nm++[(x,s)]).length<=nm.length+3
  rw [List.length_append]; simp
theorem PutOk.full {C:Cl} {D D':TD} {x u kd:Str} {s:Int} {rm:V} {H H':Hp} (h:PutOk C D x u kd s rm H H' D') (ok:kdOk kd) (F:D.full) (l:D.ns.length<60):D'.full:=by
 have ln:=h.len
 obtain ⟨un,c,n,rfl,hu,hc,h1,h2,h3,h4,h5,h6,h7,h8,h9,h10,h11⟩:=h
 obtain ⟨uin,une⟩:=zas hu
 refine ⟨by omega,fun y hy d hd=>?_⟩
 rw [ln]
 rcases List.mem_append.mp hy with hy | hy
 ·rcases zfw hy with q | q
  ·rw [q] at hd
   cases hd
   have:=zvq c.2 n.nm s
   have:=F.2 un uin c hc
   show (c.2.put n.nm s).sz<=_
   omega
  ·have:=F.2 y q.1 d hd
   omega
 ·rw [List.mem_singleton.mp hy] at hd
  rcases ok with z | z
  ·rw [h7 z] at hd; cases hd
  ·obtain ⟨a,e⟩:=h8 z
   rw [e] at hd; cases hd
   have:(CSt.new (kdB kd)).sz = 0:=by cases kdB kd <;> rfl
   show (CSt.new (kdB kd)).sz<=_
   rw [this]; omega
theorem zte (a b:List ND):waits (a++b)=waits a+waits b:=by
 unfold waits
 rw [List.map_append,List.sum_append]
theorem ztf {ns:List ND} (nn:(ns.map (·.nm)).Nodup) {n n':ND} (hn:n∈ns) (e:n'.nm=n.nm) (l:n'.qu.length<=n.qu.length):waits (setN ns n')<=waits ns:=by
 have:=zhk (ns:=ns) nn (f:=id) (g:=fun y=>if y.nm=n.nm then n' else y) (n:=n) (n':=n') (fun _=>rfl) hn e (by rw [if_pos rfl]) (fun y _ q=>by rw [if_neg q]; rfl)
 rw [List.map_id] at this
 rw [this]
 refine zhl fun y hy=>?_
 by_cases q:y.nm=n.nm
 ·rw [if_pos q]
  have a:=zdy nn hy
  rw [q,zdy nn hn] at a
  rw [<- Option.some.inj a]; exact l
 ·rw [if_neg q]; exact Nat.le_refl _
theorem PutOk.dy {C:Cl} {D D':TD} {x u kd:Str} {s:Int} {rm:V} {H H':Hp} {τ:Int} {v:Nat} (h:PutOk C D x u kd s rm H H' D') (d:dueP D x u kd s rm=none) (Y:D.Dy τ v) (l:D.ns.length<60) (lv:v<180):D'.Dy τ (v+1):=by
 have W':=h.wf Y.W d
 have ln:=h.len
 obtain ⟨un,c,n,rfl,hu,hc,h1,h2,h3,h4,h5,h6,h7,h8,h9,h10,h11⟩:=h
 obtain ⟨uin,une⟩:=zas hu
 obtain ⟨nok,hx,⟨n0,hu',ok,_,_⟩,sh⟩:=zoq d
 have mem:∀ y∈(D.put un c s n).ns,y = { un with ch:=some (c.1,c.2.put n.nm s) }\/y∈D.ns\/y=n:=fun y hy=>by
  rcases List.mem_append.mp hy with q | q
  ·rcases zfw q with q | q
   ·exact .inl q
   ·exact .inr (.inl q.1)
  ·exact .inr (.inr (List.mem_singleton.mp q))
 have gs0:(D.put un c s n).gs=D.gs:=rfl
 have m0:(D.put un c s n).most=D.most:=rfl
 refine ⟨W',fun y hy e he=>?_,fun y hy b hb=>?_,fun y hy hq=>?_,fun y hy g hg=>?_,?_,by omega,by omega⟩
 ·rw [gs0]
  rcases mem y hy with q | q | q
  ·rw [q] at he
   cases he
   obtain ⟨f1,f2⟩:=Y.fin un uin c hc
   have:=zvq c.2 n.nm s
   exact ⟨f1.put n.nm s,by show (c.2.put n.nm s).sz<=_; omega⟩
  ·obtain ⟨f1,f2⟩:=Y.fin y q e he
   exact ⟨f1,by omega⟩
  ·rw [q] at he
   rcases ok with z | z
   ·rw [h7 z] at he; cases he
   ·obtain ⟨a,e'⟩:=h8 z
    rw [e'] at he
    cases he
    have:(CSt.new (kdB kd)).sz = 0:=by cases kdB kd <;> rfl
    exact ⟨(CSt.Fine.new _).mono (Nat.zero_le _),by show (CSt.new (kdB kd)).sz<=_; omega⟩
 ·rcases mem y hy with q | q | q
  ·rw [q] at hb; exact Y.bk un uin b hb
  ·exact Y.bk y q b hb
  ·rw [q,h4] at hb; cases hb
 ·rcases mem y hy with q | q | q
  ·rw [q] at hq
   have:=Y.lv un uin hq
   rw [hc] at this; cases this
  ·exact Y.lv y q hq
  ·rw [q,h6] at hq; exact absurd rfl hq
 ·rcases mem y hy with q | q | q
  ·rw [q] at hg; exact Y.qu un uin g hg
  ·exact Y.qu y q g hg
  ·rw [q,h6] at hg; cases hg
 ·have e1:waits (D.put un c s n).ns<=waits D.ns:=by
   show waits (setN D.ns _++[n])<=_
   rw [zte]
   have:=ztf Y.W.nn (n':={ un with ch:=some (c.1,c.2.put n.nm s) }) uin rfl (Nat.le_refl _)
   have e2:waits [n] = 0:=by
    unfold waits
    rw [List.map_cons,List.map_nil,h6]; rfl
   omega
  have:=Y.bud
  rw [gs0]
  omega
theorem zln {D:TD} {x:Str} {n:ND} {q:Addr} {len τ:Int} {v:Nat} (Y:D.Dy τ v) (hx:fndN D.ns x=some n):waits (TD.come D n q len).ns<=waits D.ns+1:=by
 obtain ⟨nin,ne⟩:=zas hx
 have e0:(TD.come D n q len).ns=D.ns.map (fun y=>if y.nm=n.nm then { n with ps:=n.ps++[q],qu:=n.qu++[(D.ct,len)] } else y):=rfl
 have:∀ (f:ND->ND) (ns:List ND),(ns.map (·.nm)).Nodup->(∀ y∈ns,y.nm≠n.nm->(f y).qu.length=y.qu.length)->(∀ y∈ns,y.nm=n.nm->(f y).qu.length<=y.qu.length+1)->waits (ns.map f)<=waits ns+1:=fun f ns=>by
  induction ns with
  | nil=>intro _ _ _; exact Nat.zero_le _
  | cons p r ih =>
   intro nd h1 h2
   rw [List.map_cons,List.nodup_cons] at nd
   by_cases e:p.nm=n.nm
   ·have h3:waits (r.map f)<=waits r:=zhl fun y hy=>by
     rw [h1 y (List.mem_cons_of_mem _ hy) fun z=>nd.1 (List.mem_map.mpr ⟨y,hy,z.trans e.symm⟩)]
     exact Nat.le_refl _
    have h4:=h2 p (List.mem_cons_self ..) e
    unfold waits at h3 ⊢
    rw [List.map_cons,List.map_cons,List.map_cons,List.sum_cons,List.sum_cons]
    omega
   ·have h3:=ih nd.2 (fun y hy=>h1 y (List.mem_cons_of_mem _ hy)) (fun y hy=>h2 y (List.mem_cons_of_mem _ hy))
    have h4:=h1 p (List.mem_cons_self ..) e
    unfold waits at h3 ⊢
    rw [List.map_cons,List.map_cons,List.map_cons,List.sum_cons,List.sum_cons]
    omega
 have:=this (fun y=>if y.nm=n.nm then { n with ps:=n.ps++[q],qu:=n.qu++[(D.ct,len)] } else y) D.ns Y.W.nn (fun y _ z=>by rw [if_neg z]) (fun y hy z=>by
  rw [if_pos z]
  have a:=zdy Y.W.nn hy
  rw [z,zdy Y.W.nn nin] at a
  rw [<- Option.some.inj a]
  show (n.qu++[(D.ct,len)]).length<=_
  rw [List.length_append]; exact Nat.le_refl _)
 rw [e0]
 exact this
theorem zxt {D:TD} {x:Str} {n:ND} {q:Addr} {len τ:Int} {v:Nat} (Y:D.Dy τ v) (hx:fndN D.ns x=some n) (hc:n.ch=none) (lb:1<=len/\len<=D.most) (l:waits D.ns+D.gs.length<120):(TD.come D n q len).Dy τ v:=by
 obtain ⟨nin,ne⟩:=zas hx
 have mem:∀ y∈(TD.come D n q len).ns,y = { n with ps:=n.ps++[q],qu:=n.qu++[(D.ct,len)] }\/y∈D.ns:=fun y hy=>by
  rcases zfw hy with z | z
  ·exact .inl z
  ·exact .inr z.1
 have W':{ D with ns:=setN D.ns { n with ps:=n.ps++[q],qu:=n.qu++[(D.ct,len)] } }.Wf:=Y.W.set nin rfl rfl Iff.rfl (fun c c' e1 e2=>by rw [show n.ch=some c' from e2] at e1; cases e1; rfl) fun c e=>Y.W.cok n nin c e
 refine ⟨⟨W'.nn,W'.rd,W'.ra,W'.up,W'.kid,W'.lf,W'.cok,W'.m1,W'.sok⟩,fun y hy e he=>?_,fun y hy b hb=>?_,fun y hy hq=>?_,fun y hy g hg=>?_,?_,?_,Y.vl⟩
 ·rcases mem y hy with z | z
  ·rw [z] at he; exact Y.fin n nin e he
  ·exact Y.fin y z e he
 ·rcases mem y hy with z | z
  ·rw [z] at hb; exact Y.bk n nin b hb
  ·exact Y.bk y z b hb
 ·rcases mem y hy with z | z
  ·rw [z]; exact hc
  ·exact Y.lv y z hq
 ·rcases mem y hy with z | z
  ·rw [z] at hg
   rcases List.mem_append.mp hg with w | w
   ·exact Y.qu n nin g w
   ·rw [List.mem_singleton.mp w]; exact lb
  ·exact Y.qu y z g hg
 ·show waits (setN D.ns _)+D.gs.length<=120
  have:=zln (q:=q) (len:=len) Y hx
  have e0:waits (setN D.ns { n with ps:=n.ps++[q],qu:=n.qu++[(D.ct,len)] })=waits (TD.come D n q len).ns:=rfl
  rw [e0]
  omega
 ·show (setN D.ns _).length<=60
  unfold setN
  rw [List.length_map]
  exact Y.ln
abbrev Ok6 (n:Int):Prop:=1<=n/\n<=1000000
abbrev R3:=Int×Bool×Int
def nmB:Bool->Str
 | true => "high"
 | false => "low"
def r3 (g:R3):List V:=[.int g.1,.str (nmB g.2.1),.int g.2.2]
abbrev Tris (H:Hp):List Addr->List R3->Prop:=Paired fun p g=>H p=some (.tup (r3 g))
theorem Tris.len {H:Hp} {ps:List Addr} {gs:List R3} (h:Tris H ps gs):ps.length=gs.length:=Paired.length h
theorem Tris.keep {H H':Hp} {ps:List Addr} {gs:List R3} (h:Tris H ps gs) (e:∀ p xs,H p=some (.tup xs)->H' p=some (.tup xs)):Tris H' ps gs:=Paired.mapP h fun _ _ q=>e _ _ q
theorem Tris.snoc {H:Hp} {p:Addr} {g:R3} (hp:H p=some (.tup (r3 g))):∀ {ps:List Addr} {gs:List R3},Tris H ps gs->Tris H (ps++[p]) (gs++[g])
 | _,_,Paired.nil=>.cons hp .nil
 | _,_,Paired.cons a b=>.cons a (Tris.snoc hp b)
theorem Tris.get {H:Hp}:∀ {ps:List Addr} {gs:List R3} {i:Nat} {p:Addr},Tris H ps gs->ps[i]? = some p->∃ q,gs[i]? = some q/\H p=some (.tup (r3 q))
 | _,_,_,_,Paired.nil,e=>by simp at e
 | _,_,0,_,Paired.cons a _,e=>by simp at e; subst e; exact ⟨_,rfl,a⟩
 | _,_,i+1,_,Paired.cons _ b,e=>by
  obtain ⟨q,h1,h2⟩:=Tris.get (i:=i) b (by simpa using e)
  exact ⟨q,by simpa using h1,h2⟩
structure Rw3 (H:Hp) (l:Addr) (ps:List Addr) (gs:List R3):Prop where
 hl:H l=some (.lst (ps.map V.ref))
 r:Tris H ps gs
theorem Rw3.same {H H':Hp} {l:Addr} {ps:List Addr} {gs:List R3} (R:Rw3 H l ps gs) (e:Same H H'):Rw3 H' l ps gs:=⟨e _ _ R.hl,R.r.keep fun _ _ q=>e _ _ q⟩
theorem Rw3.app {H:Hp} {l p:Addr} {ps:List Addr} {gs:List R3} {g:R3} (R:Rw3 H l ps gs) (hp:H p=some (.tup (r3 g))):Rw3 (upd H l (.lst (ps.map V.ref++[.ref p]))) l (ps++[p]) (gs++[g]):=by
 have kt:∀ b xs,H b=some (.tup xs)->upd H l (.lst (ps.map V.ref++[.ref p])) b=some (.tup xs):=fun b xs e=>by rw [zai (ne_of e R.hl (by intro z; cases z))]; exact e
 exact ⟨by rw [zac,List.map_append]; rfl,Tris.snoc (kt _ _ hp) (R.r.keep kt)⟩
theorem ztg {H H':Hp} {l:Addr} (sm:Same H H') (h:H' l=none):H l=none:=by
 cases e:H l with
 | none=>rfl
 | some o=>rw [sm _ _ e] at h; cases h
def prow (m x:Int):List R3:=(if 0<x then [(0,true,m),(1,false,x)] else [(0,true,m)])++[(1,false,m)]++[(1,true,m)]
def cmsQ (lo m x:Int):Rat:=((x+m:Int):Rat) / (lo:Rat)
def gapQ (lo hi m x:Int):Rat:=((m:Rat) / (lo:Rat)+(m:Rat) / (hi:Rat))-cmsQ lo m x
structure Told (H:Hp) (t:Addr) (lo hi m:Int):Prop where
 ex:∃ r c g ps,H t=some (.tup [.ref r,.ref c,.ref g])/\Rw3 H r ps (prow m (m*lo / hi))/\H c=some (.tup (fq (cmsQ lo m (m*lo / hi))))/\H g=some (.tup (fq (gapQ lo hi m (m*lo / hi))))
theorem Told.same {H H':Hp} {t:Addr} {lo hi m:Int} (h:Told H t lo hi m) (e:Same H H'):Told H' t lo hi m:=by
 obtain ⟨r,c,g,ps,a1,a2,a3,a4⟩:=h.ex
 exact ⟨r,c,g,ps,e _ _ a1,a2.same e,e _ _ a3,e _ _ a4⟩
def zzq:Sp:=fun vs H Q _=>∃ s o m,vs = [.int s,.int o,.int m]/\Ok6 s/\Ok6 o/\Ok6 m/\∀ t H',Same H H'->Told H' t (if o<s then o else s) (if o > s then o else s) m->Q (.ref t) H'
theorem zqt (T:Txt K mg c_NoName c_Taken c_NoClass c_NoPlace c_NoShare c_NoLength c_TooEarly c_NoneReady c_Members c_Chooser c_Starts c_Rounds c_Node c_Tree):Def P w K mg base (CXX P w) 4 "pair_run" ["share", "other", "most"] zzq:=by
 have D_check_share:=zfv (P:=P) (w:=w) (base:=base) T
 have D_check_most:=ziv (P:=P) (w:=w) (base:=base) T
 have D_ratio:=zii (P:=P) (w:=w) (base:=base) T
 have D_plus:=zvo (P:=P) (w:=w) (base:=base) T
 have D_minus:=zxi (P:=P) (w:=w) (base:=base) T
 refine T.src_pair_run.okN (k:=3) sc_pair_run (fun vs H Q E h=>?_) (fun f cdv A outer s H vs Q E hr h=>?_)
 ·obtain ⟨s,o,m,rfl,_⟩:=h
  rfl
 ·obtain ⟨s,o,m,rfl,hs,ho,hm,k⟩:=h
  refine ⟨_,(zad (zay (zax D_check_share (hr.mono (by decide)) rfl passN (zaa (pv 0) zaf))) (zad (zay (zax D_check_share (hr.mono (by decide)) rfl passN (zaa (pv 1) zaf))) (zad (zay (zax D_check_most (hr.mono (by decide)) rfl passN (zaa (pv 2) zaf))) (zad (zbc (i:=3) sc_pair_run.nd rfl (by first|left;rfl|right;rfl) (zcq (zjk rfl) rfl T.no_min boot_min (zaa (pv 0) (zaa (pv 1) zaf)))) (zad (zbc (i:=4) sc_pair_run.nd rfl (by first|left;rfl|right;rfl) (zcq (zjj rfl) rfl T.no_max boot_max (zaa (pv 0) (zaa (pv 1) zaf)))) (zad (zbc (i:=5) sc_pair_run.nd rfl (by first|left;rfl|right;rfl) (pe_op zlt (pe_op zct (pv 2) (pv 3)) (pv 4))) (zad (zbc (i:=6) sc_pair_run.nd rfl (by first|left;rfl|right;rfl) (zgl (zaa (zfz (zaa zam (zaa zbz (zaa (pv 2) zaf)))) zaf))) (zad (ps_if (zba op_gt (pv 5) zam (zbk _)) (zah (zay (pe_bm PySem.F.plainAttrs_list PySem.F.slot_list_append PySem.F.type_list_append zdo (pv 6) (zaa (zfz (zaa zam (zaa zbz (zaa (pv 5) zaf)))) zaf)))) zbb) (zad (zay (pe_bm PySem.F.plainAttrs_list PySem.F.slot_list_append PySem.F.type_list_append zdo (pv 6) (zaa (zfz (zaa zam (zaa zbz (zaa (pv 2) zaf)))) zaf))) (zad (zay (pe_bm PySem.F.plainAttrs_list PySem.F.slot_list_append PySem.F.type_list_append zdo (pv 6) (zaa (zfz (zaa zam (zaa zbz (zaa (pv 2) zaf)))) zaf))) (zad (zbc (i:=7) sc_pair_run.nd rfl (by first|left;rfl|right;rfl) (zax D_ratio (hr.mono (by decide)) rfl passN (zaa (pe_op zfd (pv 5) (pv 2)) (zaa (pv 3) zaf)))) (zad (zbc (i:=8) sc_pair_run.nd rfl (by first|left;rfl|right;rfl) (zax D_plus (hr.mono (by decide)) rfl passN (zaa (zax D_ratio (hr.mono (by decide)) rfl passN (zaa (pv 2) (zaa (pv 3) zaf))) (zaa (zax D_ratio (hr.mono (by decide)) rfl passN (zaa (pv 2) (zaa (pv 4) zaf))) zaf)))) (zah (zbd (zfz (zaa (pv 6) (zaa (pv 7) (zaa (zax D_minus (hr.mono (by decide)) rfl passN (zaa (pv 8) (zaa (pv 7) zaf))) zaf)))))))))))))))))),?_⟩
  show tSeq _ _ _ [some (.int s),some (.int o),some (.int m),none,none,none,none,none,none] H
  refine zae fun R hR=>?_
  walk_at "rd"
  refine ⟨s,rfl,fun _=>hR _ _ ?_,fun z=>absurd hs z⟩
  refine zae fun R hR=>?_
  walk_at "rd"
  refine ⟨o,rfl,fun _=>hR _ _ ?_,fun z=>absurd ho z⟩
  refine zae fun R hR=>?_
  walk_at "rd"
  refine ⟨m,rfl,fun _=>hR _ _ ?_,fun z=>absurd hm z⟩
  refine zae fun R hR=>?_
  walk_at "rd"
  refine hR _ _ ?_
  refine zae fun R hR=>?_
  walk_at "rd"
  refine hR _ _ ?_
  have lo6:Ok6 (if o<s then o else s):=by split <;> assumption
  have hi6:Ok6 (if o > s then o else s):=by split <;> assumption
  generalize (if o<s then o else s)=lo at k lo6 ⊢
  generalize (if o > s then o else s)=hi at k hi6 ⊢
  obtain ⟨lo0,lo1⟩:=lo6
  obtain ⟨hi0,hi1⟩:=hi6
  obtain ⟨m0,m1⟩:=hm
  have zl:Sw.Sz 70 lo:=Sw.Sz.r18 (by omega) (by omega)
  have zh:Sw.Sz 70 hi:=Sw.Sz.r18 (by omega) (by omega)
  have zm:Sw.Sz 70 m:=Sw.Sz.r18 (by omega) (by omega)
  refine zae fun R hR=>?_
  walk_at "rd"
  refine ⟨⟨zm.mono (by decide),zl.mono (by decide)⟩,⟨by omega,zh.mono (by decide)⟩,hR _ _ ?_⟩
  rw [Int.fdiv_eq_ediv_of_nonneg _ (show 0<=hi by omega)]
  have x0:0<=m*lo / hi:=Int.ediv_nonneg (Int.mul_nonneg (by omega) (by omega)) (by omega)
  have x1:m*lo / hi<=1000000000000:=by
   have h1:m*lo / hi<=m*lo:=Int.ediv_le_self _ (Int.mul_nonneg (by omega) (by omega))
   have h2:m*lo<=1000000*1000000:=Int.mul_le_mul m1 lo1 (by omega) (by omega)
   omega
  have k:∀ t H',Same H H'->(∃ r c g ps,H' t=some (.tup [.ref r,.ref c,.ref g])/\Rw3 H' r ps (prow m (m*lo / hi))/\H' c=some (.tup (fq (cmsQ lo m (m*lo / hi))))/\H' g=some (.tup (fq (gapQ lo hi m (m*lo / hi)))))->Q (.ref t) H':=fun t H' sm ex=>k t H' sm ⟨ex⟩
  generalize m*lo / hi=x at k x0 x1 ⊢
  have zx:Sw.Sz 70 (x+m):=Sw.Sz.r18 (by omega) (by omega)
  refine zae fun R hR=>?_
  walk_at "rd"
  intro p1 f1 l fl
  refine hR _ _ ?_
  have s1:=zap (o:=.tup [.int 0,.str "high", .int m]) f1
  have nl:H l=none:=ztg s1 fl
  have s2:=zap (o:=.lst [.ref p1]) fl
  have R1:Rw3 (upd (upd H p1 (.tup [.int 0,.str "high", .int m])) l (.lst [.ref p1])) l [p1] [(0,true,m)]:=⟨zac,.cons (s2 _ _ zac) .nil⟩
  have sm:=s1.trans s2
  generalize upd (upd H p1 (.tup [.int 0,.str "high", .int m])) l (.lst [.ref p1])=H1 at sm R1 ⊢
  have appd:∀ {H1:Hp} {ys:List V},Same H H1->Same H (upd H1 l (.lst ys)):=fun sm b o e=>by rw [zai (zan e nl)]; exact sm _ _ e
  refine zae fun R hR=>?_
  have key:∀ ps gs H2,Same H H2->Rw3 H2 l ps gs->gs=(if 0<x then [(0,true,m),(1,false,x)] else [(0,true,m)])->R [some (.int s),some (.int o),some (.int m),some (.int lo),some (.int hi),some (.int x),some (.ref l),none,none] H2:=fun ps gs H2 sm R1 eg=>by
   refine hR _ _ ?_
   have gl:gs.length<=2:=by rw [eg]; split <;> simp
   have pl:=R1.r.len
   refine zae fun R hR=>?_
   walk_at "rd"
   refine ⟨zfx R1.hl,fun p2 f2=>?_⟩
   have sn:=zap (o:=.tup [.int 1,.str "low", .int m]) f2
   refine zhc (sn _ _ R1.hl) (by rw [List.length_map]; omega) (hR _ _ ?_)
   have R2:=(R1.same sn).app (g:=(1,false,m)) (p:=p2) zac
   have sm:=appd (ys:=ps.map V.ref++[.ref p2]) (sm.trans sn)
   generalize upd (upd H2 p2 (.tup [.int 1,.str "low", .int m])) l (.lst (ps.map V.ref++[.ref p2]))=H3 at sm R2 ⊢
   refine zae fun R hR=>?_
   walk_at "rd"
   refine ⟨zfx R2.hl,fun p3 f3=>?_⟩
   have sn:=zap (o:=.tup [.int 1,.str "high", .int m]) f3
   refine zhc (sn _ _ R2.hl) (by rw [List.length_map,List.length_append]; simp only [List.length_cons,List.length_nil]; omega) (hR _ _ ?_)
   have R3:=(R2.same sn).app (g:=(1,true,m)) (p:=p3) zac
   have sm:=appd (ys:=(ps++[p2]).map V.ref++[.ref p3]) (sm.trans sn)
   rw [eg] at R3
   generalize upd (upd H3 p3 (.tup [.int 1,.str "high", .int m])) l (.lst ((ps++[p2]).map V.ref++[.ref p3]))=H4 at sm R3 ⊢
   refine zae fun R hR=>?_
   walk_at "rd"
   refine ⟨_,_,70,rfl,by decide,zl,fun _ c fc=>hR _ _ ?_,fun z=>absurd z (by omega)⟩
   have sn:=zap (o:=.tup (fq (((x+m:Int):Rat) / (lo:Rat)))) fc
   have sm:=sm.trans sn
   have R3:=R3.same sn
   have hc:upd H4 c (.tup (fq (((x+m:Int):Rat) / (lo:Rat)))) c=some (.tup (fq (cmsQ lo m x))):=zac
   have qc:Sw.SzQ 200 (cmsQ lo m x):=.of (by omega) rfl (zx.mono (by decide)) (zl.mono (by decide))
   generalize upd H4 c (.tup (fq (((x+m:Int):Rat) / (lo:Rat))))=H5 at sm R3 hc ⊢
   refine zae fun R hR=>?_
   walk_at "rd"
   refine ⟨_,_,70,rfl,by decide,zl,fun _ b1 fb1=>?_,fun z=>absurd z (by omega)⟩
   refine ⟨_,_,70,rfl,by decide,zh,fun _ b2 fb2=>?_,fun z=>absurd z (by omega)⟩
   have n1:=zap (o:=.tup (fq ((m:Rat) / (lo:Rat)))) fb1
   have n2:=zap (o:=.tup (fq ((m:Rat) / (hi:Rat)))) fb2
   have q1:Sw.SzQ 200 ((m:Rat) / (lo:Rat)):=.of (by omega) rfl (zm.mono (by decide)) (zl.mono (by decide))
   have q2:Sw.SzQ 200 ((m:Rat) / (hi:Rat)):=.of (by omega) rfl (zm.mono (by decide)) (zh.mono (by decide))
   refine ⟨b1,b2,_,_,200,rfl,n2 _ _ zac,zac,by decide,q1,q2,fun b fb=>hR _ _ ?_⟩
   have n3:=zap (o:=.tup (fq ((m:Rat) / (lo:Rat)+(m:Rat) / (hi:Rat)))) fb
   have sn:=(n1.trans n2).trans n3
   have sm:=sm.trans sn
   have R3:=R3.same sn
   have hc:=sn _ _ hc
   have hb:upd (upd (upd H5 b1 (.tup (fq ((m:Rat) / (lo:Rat))))) b2 (.tup (fq ((m:Rat) / (hi:Rat))))) b (.tup (fq ((m:Rat) / (lo:Rat)+(m:Rat) / (hi:Rat)))) b=some (.tup (fq ((m:Rat) / (lo:Rat)+(m:Rat) / (hi:Rat)))):=zac
   have qb:Sw.SzQ 1000 ((m:Rat) / (lo:Rat)+(m:Rat) / (hi:Rat)):=(q1.add q2).mono (by decide)
   generalize upd (upd (upd H5 b1 (.tup (fq ((m:Rat) / (lo:Rat))))) b2 (.tup (fq ((m:Rat) / (hi:Rat))))) b (.tup (fq ((m:Rat) / (lo:Rat)+(m:Rat) / (hi:Rat))))=H6 at sm R3 hc hb ⊢
   walk_at "rd"
   refine ⟨b,c,_,_,1000,rfl,hb,hc,by decide,qb,qc.mono (by decide),fun g fg t ft=>?_⟩
   have n4:=zap (o:=.tup (fq ((m:Rat) / (lo:Rat)+(m:Rat) / (hi:Rat)-cmsQ lo m x))) fg
   have n5:=zap (o:=.tup [.ref l,.ref c,.ref g]) ft
   exact k t _ ((sm.trans n4).trans n5) ⟨l,c,g,_,zac,(R3.same n4).same n5,n5 _ _ (n4 _ _ hc),n5 _ _ zac⟩
  walk_at "rd"
  refine ite2 (fun hx=>?_) fun hx=>?_
  ·refine ⟨zfx R1.hl,fun p2 f2=>?_⟩
   have sn:=zap (o:=.tup [.int 1,.str "low", .int x]) f2
   refine zhc (sn _ _ R1.hl) (by simp) ?_
   exact key _ _ _ (appd (sm.trans sn)) ((R1.same sn).app (g:=(1,false,x)) (p:=p2) zac) (by rw [if_pos hx]; rfl)
  ·exact key _ _ _ sm R1 (by rw [if_neg hx])
def lowS:Str:=Str.ofString "low"
def highS:Str:=Str.ofString "high"
structure P2 (lo hi:Int) (D:TD) (ql qh:List D2) (tl th ck:Rat):Prop where
 rd:∃ n a tg gs ch N,fndN D.ns road=some n/\n.ch=some (a,.st [(lowS,lo),(highS,hi)] tg gs ck ch N)/\tg lowS=some tl/\tg highS=some th
 lw:∃ n,fndN D.ns lowS=some n/\n.ch=none/\n.qu=ql
 hg:∃ n,fndN D.ns highS=some n/\n.ch=none/\n.qu=qh
 on:D.ns.map (·.nm) = [road,lowS,highS]
 nb:NoB D
 rm:∀ n∈D.ns,n.rm = .non
 Y:∃ τ,D.Dy τ 6
theorem lh_ne:lowS≠highS/\lowS≠road/\highS≠road:=by decide +kernel
section
variable {lo hi:Int} {D:TD} {ql qh:List D2} {tl th ck:Rat} {a u t:Int} {x:Str} {pre:List Str} {g:D2}
theorem P2.dy (h:P2 lo hi D ql qh tl th ck) (τ:Int):D.Dy τ 6:=by
 obtain ⟨_,Y⟩:=h.Y
 exact ⟨Y.W,Y.fin,fun n hn b hb=>(by rw [h.nb n hn] at hb; cases hb),Y.lv,Y.qu,Y.bud,Y.ln,Y.vl⟩
theorem P2.who (h:P2 lo hi D ql qh tl th ck) (mm:May D x u):(x=lowS/\ql≠[])\/(x=highS/\qh≠[]):=by
 obtain ⟨n,ys,g,r,h1,h2,_⟩:=mm
 have hm:x∈D.ns.map (·.nm):=List.mem_map.mpr ⟨n,(zas h1).1,(zas h1).2⟩
 rw [h.on] at hm
 simp only [List.mem_cons,List.not_mem_nil,or_false] at hm
 rcases hm with q | q | q
 ·obtain ⟨m,a,tg,gs,ch,N,r1,r2,_⟩:=h.rd
  rw [q,r1] at h1
  cases h1
  have:=(h.dy 0).lv n (zas r1).1 (by rw [h2]; simp)
  rw [r2] at this; cases this
 ·obtain ⟨m,r1,_,r2⟩:=h.lw
  rw [q,r1] at h1
  cases h1
  exact .inl ⟨q,by rw [<- r2,h2]; simp⟩
 ·obtain ⟨m,r1,_,r2⟩:=h.hg
  rw [q,r1] at h1
  cases h1
  exact .inr ⟨q,by rw [<- r2,h2]; simp⟩
theorem P2.may (h:P2 lo hi D ql qh tl th ck) (w:(x=lowS/\ql≠[])\/(x=highS/\qh≠[])) (u:Int):May D x u:=by
 have key:∀ {n:ND} {q:List D2},fndN D.ns x=some n->n.qu=q->q≠[]->May D x u:=fun {n q} hn hq ne=>by
  cases e:q with
  | nil=>exact absurd e ne
  | cons g r =>
   obtain ⟨ys,U,_⟩:=(h.dy 0).W.up n (zas hn).1
   rw [(zas hn).2] at U
   exact ⟨n,ys,g,r,hn,hq.trans e,U,fun b hb=>by rw [znq h.nb] at hb; cases hb⟩
 rcases w with ⟨rfl,ne⟩ | ⟨rfl,ne⟩
 ·obtain ⟨n,h1,_,h2⟩:=h.lw
  exact key h1 h2 ne
 ·obtain ⟨n,h1,_,h2⟩:=h.hg
  exact key h1 h2 ne
theorem P2.nx (h:P2 lo hi D ql qh tl th ck) (nx:Nx D a):a=max D.tm D.fr:=by
 obtain ⟨y,m⟩:=nx.may
 have w:=h.who m
 have:=nx.le y (max D.tm D.fr) (by omega) (by omega) (h.may w _)
 have:=nx.ge
 omega
theorem pick2 {tg:Str->Option Rat} {gs:Str->Option Rat} {ch:V} {N:Nat} {rd:List Str} {z:Str} (e1:tg lowS=some tl) (e2:tg highS=some th) (h:(CSt.st [(lowS,lo),(highS,hi)] tg gs ck ch N).pickN rd=some z):(z=lowS/\lowS∈rd/\(highS∈rd->max tl ck<=max th ck))\/(z=highS/\highS∈rd/\(lowS∈rd->max th ck<max tl ck)):=by
 have h:pickF (fun x=>decide (x∈rd)) (fun x=>max ((tg x).getD 0) ck) [lowS,highS] none=some z:=h
 generalize hst:(fun x=>max ((tg x).getD 0) ck)=st at h
 have s1:st lowS=max tl ck:=by rw [<- hst]; show max ((tg lowS).getD 0) ck = _; rw [e1]; rfl
 have s2:st highS=max th ck:=by rw [<- hst]; show max ((tg highS).getD 0) ck = _; rw [e2]; rfl
 have h:pickF (fun x=>decide (x∈rd)) st [highS] (if (decide (lowS∈rd) && true)=true then some lowS else none)=some z:=h
 by_cases r1:lowS∈rd
 ·rw [if_pos (by simp [r1])] at h
  have h:(if (decide (highS∈rd) && decide (st highS<st lowS))=true then some highS else some lowS)=some z:=h
  rw [s1,s2] at h
  by_cases r2:highS∈rd/\max th ck<max tl ck
  ·rw [if_pos (by rw [Bool.and_eq_true,decide_eq_true_eq,decide_eq_true_eq]; exact r2)] at h
   exact .inr ⟨(Option.some.inj h).symm,r2.1,fun _=>r2.2⟩
  ·rw [if_neg (by rw [Bool.and_eq_true,decide_eq_true_eq,decide_eq_true_eq]; exact r2)] at h
   exact .inl ⟨(Option.some.inj h).symm,r1,fun q=>Rat.not_lt.mp fun z=>r2 ⟨q,z⟩⟩
 ·rw [if_neg (by simp [r1])] at h
  have h:(if (decide (highS∈rd) && true)=true then some highS else none)=some z:=h
  by_cases r2:highS∈rd
  ·rw [if_pos (by simp [r2])] at h
   exact .inr ⟨(Option.some.inj h).symm,r2,fun q=>absurd q r1⟩
  ·rw [if_neg (by simp [r2])] at h
   cases h
theorem P2.step (h:P2 lo hi D ql qh tl th ck) (G:Goes D a x pre g):(x=lowS/\∃ r,ql=g :: r/\(qh≠[]->max tl ck<=max th ck)/\∀ p,P2 lo hi (D.step (Rdy D a) (x :: pre) x a g p) r qh (max tl ck+(g.2:Rat) / (lo:Rat)) th (max tl ck))\/(x=highS/\∃ r,qh=g :: r/\(ql≠[]->max th ck<max tl ck)/\∀ p,P2 lo hi (D.step (Rdy D a) (x :: pre) x a g p) ql r tl (max th ck+(g.2:Rat) / (hi:Rat)) (max th ck)):=by
 have Y:=h.dy a
 obtain ⟨nr,ar,tg,gs,ch,N,r1,r2,r3,r4⟩:=h.rd
 obtain ⟨nl,l1,l2,l3⟩:=h.lw
 obtain ⟨nh,g1,g2,g3⟩:=h.hg
 obtain ⟨n1,n2,n3⟩:=lh_ne
 obtain ⟨nx,r,q1,q2,q3,_⟩:=G.q
 have xr:x≠road:=fun z=>by rw [z,r1] at q1; cases q1; rw [r2] at q2; cases q2
 have led:pre = [road]/\(CSt.st [(lowS,lo),(highS,hi)] tg gs ck ch N).pickN (rdl (CSt.st [(lowS,lo),(highS,hi)] tg gs ck ch N) (Rdy D a))=some x:=by
  have only:∀ y n c,fndN D.ns y=some n->n.ch=some c->y=road:=fun y n c e1 e2=>by
   have hm:y∈D.ns.map (·.nm):=List.mem_map.mpr ⟨n,(zas e1).1,(zas e1).2⟩
   rw [h.on] at hm
   simp only [List.mem_cons,List.not_mem_nil,or_false] at hm
   rcases hm with q | q | q
   ·exact q
   ·rw [q,l1] at e1; cases e1; rw [l2] at e2; cases e2
   ·rw [q,g1] at e1; cases e1; rw [g2] at e2; cases e2
  cases G.led with
  | nil=>exact absurd rfl xr
  | @snoc pre0 y z n c L e1 e2 e3 =>
   have ey:=only y n c e1 e2
   subst ey
   rw [r1] at e1
   cases e1
   rw [r2] at e2
   cases e2
   refine ⟨?_,e3⟩
   cases L with
   | nil=>rfl
   | @snoc pre1 y1 _ n1' c1 L1 f1 f2 f3 =>
    have ey:=only y1 n1' c1 f1 f2
    subst ey
    rw [r1] at f1
    cases f1
    rw [r2] at f2
    cases f2
    have:=(mem_rdl.mp (zjz f3)).1
    have:road∈[lowS,highS]:=this
    simp only [List.mem_cons,List.not_mem_nil,or_false] at this
    exact absurd this (by rintro (q | q); exact n2 q.symm; exact n3 q.symm)
 obtain ⟨rfl,pk⟩:=led
 have rdy:∀ {y},((y=lowS/\ql≠[])\/(y=highS/\qh≠[]))->y∈[lowS,highS]->y∈rdl (CSt.st [(lowS,lo),(highS,hi)] tg gs ck ch N) (Rdy D a):=fun {y} w hy=>by
  have M:=h.may w a
  obtain ⟨n,ys,g,r,e1,e2,U,e3⟩:=M
  exact mem_rdl.mpr ⟨hy,y,ys,⟨n,ys,g,r,e1,e2,U,e3⟩,U,U.self⟩
 have fd:∀ y p,fndN (D.step (Rdy D a) [x,road] x a g p).ns y=(fndN D.ns y).map (stN D.most (Rdy D a) [x,road] a g.2):=fun y p=>zjx zpv y
 have nmS:∀ p,(D.step (Rdy D a) [x,road] x a g p).ns.map (·.nm) = [road,lowS,highS]:=fun p=>by
  show (D.ns.map _).map _ = _
  rw [List.map_map,<- h.on]
  exact List.map_congr_left fun y _=>zpv y
 have rmS:∀ p,∀ n∈(D.step (Rdy D a) [x,road] x a g p).ns,n.rm = .non:=fun p n hn=>by
  obtain ⟨m0,hm0,rfl⟩:=List.mem_map.mp hn
  rw [(stN_p m0).2.2]; exact h.rm m0 hm0
 have out:∀ {y n},fndN D.ns y=some n->y≠x->y≠road->stN D.most (Rdy D a) [x,road] a g.2 n=n:=fun {y n} e z1 z2=>by
  unfold L2.stN
  rw [if_neg (by rw [(zas e).2]; simp [z1,z2])]
 have rdS:∀ p,∃ n' , fndN (D.step (Rdy D a) [x,road] x a g p).ns road=some n'/\n'.ch=some (ar,((CSt.st [(lowS,lo),(highS,hi)] tg gs ck ch N).chosen D.most (rdl (CSt.st [(lowS,lo),(highS,hi)] tg gs ck ch N) (Rdy D a)) x).paid x g.2):=fun p=>⟨_,by rw [fd,r1]; rfl,by
  unfold L2.stN
  rw [if_pos (by rw [(zas r1).2]; simp)]
  show nr.ch.map _ = _
  rw [r2]
  show some (ar,CSt.go _ _ _ _) = _
  unfold CSt.go
  rw [pk]⟩
 have self:∀ {y n},fndN D.ns y=some n->y=x->(stN D.most (Rdy D a) [x,road] a g.2 n).qu=n.qu.tail/\(n.ch=none->(stN D.most (Rdy D a) [x,road] a g.2 n).ch=none):=fun {y n} e z=>by
  unfold L2.stN
  rw [if_pos (by rw [(zas e).2,z]; simp)]
  exact ⟨rfl,fun q=>by show n.ch.map _=none; rw [q]; rfl⟩
 have sh2:shOf [(lowS,lo),(highS,hi)] lowS=some lo/\shOf [(lowS,lo),(highS,hi)] highS=some hi:=by
  unfold shOf
  exact ⟨by rw [List.find?_cons_of_pos (by simp)]; rfl,by rw [List.find?_cons_of_neg (by simp [n1]),List.find?_cons_of_pos (by simp)]; rfl⟩
 rcases pick2 r3 r4 pk with ⟨ex,_,k⟩ | ⟨ex,_,k⟩
 ·subst ex
  left
  rw [l1] at q1
  cases q1
  refine ⟨rfl,r,l3.symm.trans q3,fun ne=>k (rdy (.inr ⟨rfl,ne⟩) (by simp)),fun p=>⟨?_,?_,?_,nmS p,zjf h.nb _ _ _ _ _ _,rmS p,_,(G.dy Y (Int.le_refl _) p).1⟩⟩
  ·obtain ⟨n',e1,e2⟩:=rdS p
   refine ⟨n',ar,_,_,_,_,e1,e2.trans (by rw [show (CSt.st [(lowS,lo),(highS,hi)] tg gs ck ch N).chosen D.most (rdl (CSt.st [(lowS,lo),(highS,hi)] tg gs ck ch N) (Rdy D a)) lowS=CSt.st [(lowS,lo),(highS,hi)] tg gs (max tl ck) (.str lowS) N from by show CSt.st _ tg gs (max ((tg lowS).getD 0) ck) _ N = _; rw [r3]; rfl]; rfl),?_,?_⟩
   ·show setS tg lowS _ lowS = _
    unfold setS
    rw [if_pos rfl,sh2.1]
    rfl
   ·show setS tg lowS _ highS = _
    unfold setS
    rw [if_neg n1.symm]
    exact r4
  ·exact ⟨_,by rw [fd,l1]; rfl,(self l1 rfl).2 l2,by rw [(self l1 rfl).1,q3]; rfl⟩
  ·exact ⟨nh,by rw [fd,g1]; show some (stN _ _ _ _ _ nh) = _; rw [out g1 n1.symm n3],g2,g3⟩
 ·subst ex
  right
  rw [g1] at q1
  cases q1
  refine ⟨rfl,r,g3.symm.trans q3,fun ne=>k (rdy (.inl ⟨rfl,ne⟩) (by simp)),fun p=>⟨?_,?_,?_,nmS p,zjf h.nb _ _ _ _ _ _,rmS p,_,(G.dy Y (Int.le_refl _) p).1⟩⟩
  ·obtain ⟨n',e1,e2⟩:=rdS p
   refine ⟨n',ar,_,_,_,_,e1,e2.trans (by rw [show (CSt.st [(lowS,lo),(highS,hi)] tg gs ck ch N).chosen D.most (rdl (CSt.st [(lowS,lo),(highS,hi)] tg gs ck ch N) (Rdy D a)) highS=CSt.st [(lowS,lo),(highS,hi)] tg gs (max th ck) (.str highS) N from by show CSt.st _ tg gs (max ((tg highS).getD 0) ck) _ N = _; rw [r4]; rfl]; rfl),?_,?_⟩
   ·show setS tg highS _ lowS = _
    unfold setS
    rw [if_neg n1]
    exact r3
   ·show setS tg highS _ highS = _
    unfold setS
    rw [if_pos rfl,sh2.2]
    rfl
  ·exact ⟨nl,by rw [fd,l1]; show some (stN _ _ _ _ _ nl) = _; rw [out l1 n1 n2],l2,l3⟩
  ·exact ⟨_,by rw [fd,g1]; rfl,(self g1 rfl).2 g2,by rw [(self g1 rfl).1,q3]; rfl⟩
end
def sm:List D2->Int
 | []=>0
 | g :: r=>g.2+sm r
theorem zzr (a b:List D2):sm (a++b)=sm a+sm b:=by
 induction a with
 | nil=>simp [sm]
 | cons g r ih=>rw [List.cons_append,sm,sm,ih]; omega
def nmz (gs:List D3):List (Int×Str):=gs.map fun d=>(d.2.1,d.2.2)
def lws (L:List D2):List (Int×Str):=L.map fun g=>(g.1,lowS)
structure Fits (lo hi m:Int) (L:List D2):Prop where
 l0:1<=lo
 h0:1<=hi
 le:∀ k,k<L.length->(sm (L.take k):Rat) / (lo:Rat)<=(m:Rat) / (hi:Rat)
 gt:(m:Rat) / (hi:Rat)<(sm L:Rat) / (lo:Rat)
def Mid (lo hi m:Int) (L:List D2) (nh:Int) (D:TD):Prop:=∃ ql qh tl th ck k mr,P2 lo hi D ql qh tl th ck/\k<=L.length/\nmz D.gs=(0,highS) :: lws (L.take k)/\ql=L.drop k++mr/\qh = [(nh,m)]/\tl=(sm (L.take k):Rat) / (lo:Rat)/\th=(m:Rat) / (hi:Rat)/\ck<=tl/\ck<=th/\D.fr<=1+5*D.most+D.gs.length*D.most/\D.tm<=1+5*D.most
def Fin (lo hi:Int) (L:List D2) (nh:Int) (D:TD):Prop:=(∃ ql qh tl th ck,P2 lo hi D ql qh tl th ck)/\∃ more,nmz D.gs=(0,highS) :: lws L++(nh,highS) :: more
theorem zkn {a b:Rat} (h:b<=a):max a b=a:=by
 rw [Rat.max_def]
 split
 ·exact Rat.le_antisymm h (by assumption)
 ·rfl
theorem Mid.step {lo hi m nh a:Int} {L:List D2} {D:TD} {x:Str} {pre:List Str} {g:D2} (F:Fits lo hi m L) (M:Mid lo hi m L nh D) (nx:Nx D a) (G:Goes D a x pre g) (p:Addr):Mid lo hi m L nh (D.step (Rdy D a) (x :: pre) x a g p)\/Fin lo hi L nh (D.step (Rdy D a) (x :: pre) x a g p):=by
 obtain ⟨ql,qh,tl,th,ck,k,mr,h,kl,gz,rfl,rfl,e1,e2,c1,c2,fr,tm⟩:=M
 have ea:=h.nx nx
 have t1:max tl ck=tl:=zkn c1
 have t2:max th ck=th:=zkn c2
 have gz':nmz (D.step (Rdy D a) (x :: pre) x a g p).gs=nmz D.gs++[(g.1,x)]:=by
  show (D.gs++[_]).map _ = _
  rw [List.map_append]; rfl
 obtain ⟨nq,_,hq,_,hqq,_⟩:=G.q
 have gb:=(h.dy 0).qu nq (zas hq).1 g (by rw [hqq]; exact List.mem_cons_self ..)
 rcases Nat.lt_or_ge k L.length with kl' | kl'
 ·rcases h.step G with ⟨ex,r,er,_,P⟩ | ⟨ex,r,er,c,P⟩
  ·left
   rw [Sw.drop_get (List.getElem?_eq_getElem kl'),List.cons_append] at er
   obtain ⟨eg,er⟩:=List.cons.inj er
   have tk:L.take (k+1)=L.take k++[g]:=by rw [List.take_succ_eq_append_getElem kl',eg]
   have st:(sm (L.take (k+1)):Rat) / (lo:Rat)=tl+(g.2:Rat) / (lo:Rat):=by
    rw [tk,zzr,e1,show sm [g] = g.2 by simp [sm],Rat.intCast_add,Rat.div_def,Rat.div_def,Rat.div_def,Rat.add_mul]
   refine ⟨_,_,_,_,_,k+1,mr,P p,kl',by rw [gz',gz,tk,ex]; unfold lws; rw [List.map_append]; rfl,er.symm,rfl,by rw [st,t1],e2,?_,?_,?_,tm⟩
   ·rw [t1]
    have:(0:Rat)<=(g.2:Rat) / (lo:Rat):=by
     rw [Rat.div_def]
     exact Rat.mul_nonneg (Rat.intCast_nonneg.mpr (by omega)) (Rat.le_of_lt (Rat.inv_pos.mpr (Rat.intCast_pos.mpr (by have:=F.l0; omega))))
    grind
   ·rw [t1,e1,e2]
    exact F.le k kl'
   ·show a+g.2<=1+5*D.most+((D.gs++[_]).length:Nat)*D.most
    rw [List.length_append]
    have e3:((D.gs.length + [(a,g.1,x)].length:Nat):Int)*D.most=D.gs.length*D.most+D.most:=by
     show ((D.gs.length+1:Nat):Int)*D.most = _
     rw [Int.natCast_add,Int.add_mul]; simp
    rw [e3]
    have:0<=(D.gs.length:Int)*D.most:=Int.mul_nonneg (by omega) (by omega)
    omega
  ·exfalso
   have:=c (by rw [Sw.drop_get (List.getElem?_eq_getElem kl'),List.cons_append]; exact List.cons_ne_nil _ _)
   rw [t1,t2,e1,e2] at this
   exact absurd (F.le k kl') (Rat.not_le.mpr this)
 ·have ek:k=L.length:=by omega
  subst ek
  rcases h.step G with ⟨ex,r,er,c,P⟩ | ⟨ex,r,er,_,P⟩
  ·exfalso
   have:=c (by simp)
   rw [t1,t2,e1,e2,List.take_length] at this
   exact absurd F.gt (Rat.not_lt.mpr this)
  ·right
   obtain ⟨eg,er⟩:=List.cons.inj er
   exact ⟨⟨_,_,_,_,_,P p⟩,[],by rw [gz',gz,List.take_length,<- eg,ex]⟩
theorem Fin.step {lo hi nh a:Int} {L:List D2} {D:TD} {x:Str} {pre:List Str} {g:D2} (M:Fin lo hi L nh D) (G:Goes D a x pre g) (p:Addr):Fin lo hi L nh (D.step (Rdy D a) (x :: pre) x a g p):=by
 obtain ⟨⟨ql,qh,tl,th,ck,h⟩,more,gz⟩:=M
 have gz':nmz (D.step (Rdy D a) (x :: pre) x a g p).gs=nmz D.gs++[(g.1,x)]:=by
  show (D.gs++[_]).map _ = _
  rw [List.map_append]; rfl
 refine ⟨?_,more++[(g.1,x)],by rw [gz',gz]; simp⟩
 rcases h.step G with ⟨_,r,_,_,P⟩ | ⟨_,r,_,_,P⟩
 ·exact ⟨_,_,_,_,_,P p⟩
 ·exact ⟨_,_,_,_,_,P p⟩
theorem P2.come {lo hi:Int} {D:TD} {ql qh:List D2} {tl th ck:Rat} (h:P2 lo hi D ql qh tl th ck) {x:Str} {n:ND} (hn:fndN D.ns x=some n) (hx:x=lowS\/x=highS) {q:Addr} {len:Int} (lb:1<=len/\len<=D.most) (bd:waits D.ns+D.gs.length<120):P2 lo hi (TD.come D n q len) (if x=lowS then ql++[(D.ct,len)] else ql) (if x=lowS then qh else qh++[(D.ct,len)]) tl th ck:=by
 obtain ⟨nin,ne⟩:=zas hn
 obtain ⟨n1,n2,n3⟩:=lh_ne
 obtain ⟨nr,ar,tg,gs,ch,N,r1,r2,r3,r4⟩:=h.rd
 obtain ⟨nl,l1,l2,l3⟩:=h.lw
 obtain ⟨nh,g1,g2,g3⟩:=h.hg
 have fs:∀ y,fndN (TD.come D n q len).ns y=if y=n.nm then (fndN D.ns y).map (fun _=>{ n with ps:=n.ps++[q],qu:=n.qu++[(D.ct,len)] }) else fndN D.ns y:=fun y=>zie (n:={ n with ps:=n.ps++[q],qu:=n.qu++[(D.ct,len)] }) y
 have fx:fndN (TD.come D n q len).ns x=some { n with ps:=n.ps++[q],qu:=n.qu++[(D.ct,len)] }:=by rw [fs,if_pos ne.symm,hn]; rfl
 have fo:∀ y,y≠x->fndN (TD.come D n q len).ns y=fndN D.ns y:=fun y z=>by rw [fs,if_neg (fun w=>z (w.trans ne))]
 have hc:n.ch=none:=by
  rcases hx with rfl | rfl
  ·rw [hn] at l1; cases l1; exact l2
  ·rw [hn] at g1; cases g1; exact g2
 have xr:x≠road:=by rcases hx with rfl | rfl; exact n2; exact n3
 have mem:∀ y∈(TD.come D n q len).ns,y = { n with ps:=n.ps++[q],qu:=n.qu++[(D.ct,len)] }\/(y∈D.ns/\y.nm≠n.nm):=fun y hy=>zfw hy
 have Y:=zxt (q:=q) (h.dy 0) hn hc lb bd
 refine ⟨⟨nr,ar,tg,gs,ch,N,by rw [fo _ xr.symm]; exact r1,r2,r3,r4⟩,?_,?_,(zlw _ _).trans h.on,fun y hy=>?_,fun y hy=>?_,_,Y⟩
 ·rcases hx with rfl | rfl
  ·rw [hn] at l1
   cases l1
   exact ⟨{ n with ps:=n.ps++[q],qu:=n.qu++[(D.ct,len)] },fx,hc,by rw [if_pos rfl,<- l3]⟩
  ·exact ⟨nl,by rw [fo _ n1]; exact l1,l2,by rw [if_neg n1.symm]; exact l3⟩
 ·rcases hx with rfl | rfl
  ·exact ⟨nh,by rw [fo _ n1.symm]; exact g1,g2,by rw [if_pos rfl]; exact g3⟩
  ·rw [hn] at g1
   cases g1
   exact ⟨{ n with ps:=n.ps++[q],qu:=n.qu++[(D.ct,len)] },fx,hc,by rw [if_neg n1.symm,<- g3]⟩
 ·rcases mem y hy with z | z
  ·rw [z]; exact h.nb n nin
  ·exact h.nb y z.1
 ·rcases mem y hy with z | z
  ·rw [z]; exact h.rm n nin
  ·exact h.rm y z.1
structure Bd (D:TD):Prop where
 t0:0<=D.tm
 f0:0<=D.fr/\D.fr<=D.tm+D.most
 ct:((waits D.ns+D.gs.length:Nat):Int)<=D.ct
theorem Mid.come {lo hi m nh:Int} {L:List D2} {D:TD} (M:Mid lo hi m L nh D) {n:ND} (hn:fndN D.ns lowS=some n) {q:Addr} {len:Int} (lb:1<=len/\len<=D.most) (bd:waits D.ns+D.gs.length<120):Mid lo hi m L nh (TD.come D n q len):=by
 obtain ⟨ql,qh,tl,th,ck,k,mr,h,kl,gz,rfl,rfl,e1,e2,c1,c2,fr,tm⟩:=M
 have P:=h.come (q:=q) hn (.inl rfl) lb bd
 rw [if_pos rfl,if_pos rfl,List.append_assoc] at P
 exact ⟨_,_,_,_,_,k,mr++[(D.ct,len)],P,kl,gz,rfl,rfl,e1,e2,c1,c2,fr,tm⟩
theorem Fin.come {lo hi nh:Int} {L:List D2} {D:TD} (M:Fin lo hi L nh D) {n:ND} (hn:fndN D.ns lowS=some n) {q:Addr} {len:Int} (lb:1<=len/\len<=D.most) (bd:waits D.ns+D.gs.length<120):Fin lo hi L nh (TD.come D n q len):=by
 obtain ⟨⟨ql,qh,tl,th,ck,h⟩,more,gz⟩:=M
 exact ⟨⟨_,_,_,_,_,h.come (q:=q) hn (.inl rfl) lb bd⟩,more,gz⟩
theorem Bd.come {D:TD} (B:Bd D) {τ:Int} {v:Nat} (Y:D.Dy τ v) {x:Str} {n:ND} (hn:fndN D.ns x=some n) {q:Addr} {len:Int}:Bd (TD.come D n q len):=by
 refine ⟨B.t0,B.f0,?_⟩
 have:=zln (q:=q) (len:=len) Y hn
 have:=B.ct
 show ((waits (TD.come D n q len).ns+D.gs.length:Nat):Int)<=D.ct+1
 omega
theorem zvr {lo hi m nh t:Int} {L:List D2} {D D':TD} (F:Fits lo hi m L) (M:Mid lo hi m L nh D\/Fin lo hi L nh D) (B:Bd D) (tt:D.tm<=t) (h:Runs t D D'):(Mid lo hi m L nh D'\/Fin lo hi L nh D')/\Bd { D' with tm:=t }/\D'.tm=D.tm/\D'.p=D.p/\D'.ct=D.ct/\D'.most=D.most:=by
 have t0:=B.t0
 have f0:=B.f0
 have key:=h.keep (I:=fun X=>(Mid lo hi m L nh X\/Fin lo hi L nh X)/\(0<=X.fr/\X.fr<=t+X.most)/\((waits X.ns+X.gs.length:Nat):Int)<=X.ct/\X.tm=D.tm/\X.p=D.p/\X.ct=D.ct/\X.most=D.most) ⟨M,by omega,B.ct,rfl,rfl,rfl,rfl⟩ (fun X a x pre g p ⟨M,f,c,e1,e2,e3,e4⟩ nx at' G=>by
  have PX:∃ ql qh tl th ck,P2 lo hi X ql qh tl th ck:=by
   rcases M with ⟨ql,qh,tl,th,ck,_,_,h,_⟩ | ⟨h,_⟩
   ·exact ⟨ql,qh,tl,th,ck,h⟩
   ·exact h
  obtain ⟨ql,qh,tl,th,ck,P⟩:=PX
  obtain ⟨nq,_,hq,_,hqq,_⟩:=G.q
  have gb:=(P.dy 0).qu nq (zas hq).1 g (by rw [hqq]; exact List.mem_cons_self ..)
  obtain ⟨_,wl⟩:=G.dy (P.dy a) (Int.le_refl _) p
  have ge:=nx.ge
  refine ⟨?_,⟨?_,?_⟩,?_,e1,e2,e3,e4⟩
  ·rcases M with M | M
   ·exact M.step F nx G p
   ·exact .inr (M.step G p)
  ·show 0<=a+g.2
   omega
  ·show a+g.2<=t+X.most
   omega
  ·have:(X.step (Rdy X a) (x :: pre) x a g p).gs.length=X.gs.length+1:=by
    show (X.gs++[_]).length = _
    rw [List.length_append]; rfl
   show _<=X.ct
   omega)
 obtain ⟨M',f,c,e1,e2,e3,e4⟩:=key
 exact ⟨M',⟨by show 0<=t; omega,f,c⟩,e1,e2,e3,e4⟩
theorem P2.time {lo hi t:Int} {D:TD} {ql qh:List D2} {tl th ck:Rat} (h:P2 lo hi D ql qh tl th ck):P2 lo hi { D with tm:=t } ql qh tl th ck:=by
 have Y:=h.dy 0
 have W:=Y.W
 exact ⟨h.rd,h.lw,h.hg,h.on,h.nb,h.rm,0,⟨W.nn,W.rd,W.ra,W.up,W.kid,W.lf,W.cok,W.m1,W.sok⟩,Y.fin,Y.bk,Y.lv,Y.qu,Y.bud,Y.ln,Y.vl⟩
theorem Mid.time {lo hi m nh t:Int} {L:List D2} {D:TD} (M:Mid lo hi m L nh D) (tb:t<=1+5*D.most):Mid lo hi m L nh { D with tm:=t }:=by
 obtain ⟨ql,qh,tl,th,ck,k,mr,h,kl,gz,e3,e4,e1,e2,c1,c2,fr,tm⟩:=M
 exact ⟨ql,qh,tl,th,ck,k,mr,h.time,kl,gz,e3,e4,e1,e2,c1,c2,fr,tb⟩
theorem Fin.time {lo hi nh t:Int} {L:List D2} {D:TD} (M:Fin lo hi L nh D):Fin lo hi L nh { D with tm:=t }:=by
 obtain ⟨⟨ql,qh,tl,th,ck,h⟩,gz⟩:=M
 exact ⟨⟨_,_,_,_,_,h.time⟩,gz⟩
theorem Mid.done {lo hi m nh t:Int} {L:List D2} {D:TD} (M:Mid lo hi m L nh D) (l2:L.length<=2) (r:Rest D t) (big:1+8*D.most<t):False:=by
 obtain ⟨ql,qh,tl,th,ck,k,mr,h,kl,gz,e3,e4,e1,e2,c1,c2,fr,tm⟩:=M
 have gl:D.gs.length<=3:=by
  have:=congrArg List.length gz
  unfold nmz lws at this
  rw [List.length_map,List.length_cons,List.length_map,List.length_take] at this
  omega
 have:=r highS (max D.tm D.fr) (by omega) (by omega) (h.may (.inr ⟨rfl,by rw [e4]; simp⟩) _)
 have m1:=(h.dy 0).W.m1.1
 have:(D.gs.length:Int)*D.most<=3*D.most:=Int.mul_le_mul_of_nonneg_right (by omega) (by omega)
 omega
def zzs:Sp:=fun vs H Q _=>∃ c,vs = [.int c]/\∀ n H',Same H H'->Ok6 n->Q (.int n) H'
theorem zmj (T:Txt K mg c_NoName c_Taken c_NoClass c_NoPlace c_NoShare c_NoLength c_TooEarly c_NoneReady c_Members c_Chooser c_Starts c_Rounds c_Node c_Tree):Def P w K mg base (CXX P w) 1 "_law_number" ["_law_cell"] zzs:=by
 refine T.src__law_number.okN (k:=0) zkq (fun vs H Q E h=>?_) (fun f cdv A outer s H vs Q E hr h=>?_)
 ·obtain ⟨c,rfl,_⟩:=h
  rfl
 ·obtain ⟨c,rfl,k⟩:=h
  refine ⟨_,(zah (zbd (pe_op zfd zam (pe_op zit (pe_op zpb (pv 0) zam) (pe_ix (zfe K rfl) (zgl (zaa zam (zaa zam (zaa (pe_op zuz zam zam) (zaa (pe_op zuz zam zam) zaf))))) (pe_op zit (pv 0) zam) (fun _ _=>rfl)))))),?_⟩
  show tRet _ _ [some (.int c)] H
  walk_at "rd"
  intro p1 f1
  refine pickM [9,60,1000000,1000] (Int.emod_nonneg _ (by decide)) (Int.emod_lt_of_pos _ (by decide)) fun md hmd=>?_
  have mdb:1<=md/\md<=1000000:=by
   simp only [List.mem_cons,List.not_mem_nil,or_false] at hmd
   rcases hmd with q | q | q | q <;> omega
  have:=Int.emod_nonneg (c / 4) (show md≠0 by omega)
  have:=Int.emod_lt_of_pos (c / 4) (show 0<md by omega)
  exact ⟨_,rfl,by omega,k _ _ (zap f1) ⟨by omega,by omega⟩⟩
theorem q_of {q:Rat} {n d:Int} (hd:d≠0) (h:q*(d:Rat)=(n:Rat)):q.num*d=(q.den:Int)*n:=Sw.q_cross hd (by rw [<- h,Rat.div_def,Rat.mul_assoc,Rat.mul_inv_cancel _ (Sw.q_cast_ne hd),Rat.mul_one])
theorem zth {lo hi m x:Int} (l0:1<=lo) (h0:1<=hi):(cmsQ lo m x).num*lo=((cmsQ lo m x).den:Int)*(x+m)/\(gapQ lo hi m x).num*(lo*hi)=((gapQ lo hi m x).den:Int)*(m*lo-x*hi):=by
 have ln:=Sw.q_cast_ne (show lo≠0 by omega)
 have hn:=Sw.q_cast_ne (show hi≠0 by omega)
 have l1:=Rat.mul_inv_cancel _ ln
 have h1:=Rat.mul_inv_cancel _ hn
 refine ⟨Sw.q_cross (by omega) rfl,q_of (Int.mul_ne_zero (by omega) (by omega)) ?_⟩
 unfold gapQ cmsQ
 rw [Rat.div_def,Rat.div_def,Rat.div_def,Rat.intCast_add,Rat.intCast_mul,Rat.intCast_sub,Rat.intCast_mul,Rat.intCast_mul]
 generalize (lo:Rat)=a at l1 ⊢
 generalize (hi:Rat)=b at h1 ⊢
 generalize a⁻¹ = c at l1 ⊢
 generalize b⁻¹ = d at h1 ⊢
 grind
theorem zti {lo hi m x:Int} (l6:Ok6 lo) (h6:Ok6 hi) (m6:Ok6 m) (x0:0<=x/\x<=1000000000000):Sw.SzQ 200 (cmsQ lo m x)/\Sw.SzQ 1300 (gapQ lo hi m x):=by
 have zl:Sw.Sz 200 lo:=(show Sw.Sz 70 lo from Sw.Sz.r18 (by omega) (by omega)).mono (by decide)
 have zh:Sw.Sz 200 hi:=(show Sw.Sz 70 hi from Sw.Sz.r18 (by omega) (by omega)).mono (by decide)
 have zm:Sw.Sz 200 m:=(show Sw.Sz 70 m from Sw.Sz.r18 (by omega) (by omega)).mono (by decide)
 have zx:Sw.Sz 200 (x+m):=(show Sw.Sz 70 (x+m) from Sw.Sz.r18 (by omega) (by omega)).mono (by decide)
 have qc:Sw.SzQ 200 (cmsQ lo m x):=.of (by omega) rfl zx zl
 have q1:Sw.SzQ 200 ((m:Rat) / (lo:Rat)):=.of (by omega) rfl zm zl
 have q2:Sw.SzQ 200 ((m:Rat) / (hi:Rat)):=.of (by omega) rfl zm zh
 exact ⟨qc,((q1.add q2).sub qc).mono (by decide)⟩
theorem zjg {lo hi m:Int} (l6:Ok6 lo) (h6:Ok6 hi) (m6:Ok6 m) (lh:lo<=hi):0<=m*lo / hi/\m*lo / hi<=m/\0<=m*lo-m*lo / hi*hi/\m*lo-m*lo / hi*hi<hi:=by
 have e:=Int.emod_def (m*lo) hi
 have r0:=Int.emod_nonneg (m*lo) (show hi≠0 by omega)
 have r1:=Int.emod_lt_of_pos (m*lo) (show 0<hi by omega)
 have e2:hi*(m*lo / hi)=m*lo / hi*hi:=Int.mul_comm _ _
 have x1:m*lo / hi<=m:=by
  have h1:m*lo<=m*hi:=Int.mul_le_mul_of_nonneg_left lh (by omega)
  have:=Int.ediv_le_ediv (show 0<hi by omega) h1
  rwa [Int.mul_ediv_cancel _ (show hi≠0 by omega)] at this
 exact ⟨Int.ediv_nonneg (Int.mul_nonneg (by omega) (by omega)) (by omega),x1,by omega,by omega⟩
def zzt:Sp:=fun vs H Q _=>∃ t lo hi m,vs = [.ref t,.int lo,.int hi,.int m]/\Told H t lo hi m/\Ok6 lo/\Ok6 hi/\Ok6 m/\lo<=hi/\∀ H',Same H H'->Q (.bl true) H'
theorem zqu (T:Txt K mg c_NoName c_Taken c_NoClass c_NoPlace c_NoShare c_NoLength c_TooEarly c_NoneReady c_Members c_Chooser c_Starts c_Rounds c_Node c_Tree):Def P w K mg base (CXX P w) 1 "_law_law" ["_law_told", "_law_low", "_law_high", "_law_most"] zzt:=by
 refine T.src__law_law.okN (k:=0) sc__law_law (fun vs H Q E h=>?_) (fun f cdv A outer s H vs Q E hr h=>?_)
 ·obtain ⟨t,lo,hi,m,rfl,_⟩:=h
  rfl
 ·obtain ⟨t,lo,hi,m,rfl,D,l6,h6,m6,lh,k⟩:=h
  refine ⟨_,(zad (zbc (i:=4) sc__law_law.nd rfl (by first|left;rfl|right;rfl) (pe_ix (zaz K rfl) (pv 0) zam (fun _ _=>rfl))) (zad (zbc (i:=5) sc__law_law.nd rfl (by first|left;rfl|right;rfl) (pe_ix (zaz K rfl) (pv 0) zam (fun _ _=>rfl))) (zad (ps_if (PW.pt (pw_or (zba op_lt (pe_ix (zaz K rfl) (pv 5) zam (fun _ _=>rfl)) zam (zbk _)) (zml (zba op_ge (pe_op zct (pe_ix (zaz K rfl) (pv 5) zam (fun _ _=>rfl)) (pv 1)) (pe_ix (zaz K rfl) (pv 5) zam (fun _ _=>rfl)) (zbk _))))) (zah (zbd pe_bl)) zbb) (zad (zbc (i:=6) sc__law_law.nd rfl (by first|left;rfl|right;rfl) (pe_op zfd (pe_op zct (pe_ix (zaz K rfl) (pv 4) zam (fun _ _=>rfl)) (pe_ix (zaz K rfl) (pv 5) zam (fun _ _=>rfl))) (pe_op zct (pe_ix (zaz K rfl) (pv 5) zam (fun _ _=>rfl)) (pe_ix (zaz K rfl) (pv 4) zam (fun _ _=>rfl))))) (zah (zbd (zgo op_eq (pe_op zct (pe_op zct (pv 6) (pv 1)) (pv 2)) (pe_op zct (pe_op zct (pe_op zct (pe_ix (zaz K rfl) (pv 4) zam (fun _ _=>rfl)) (pe_ix (zaz K rfl) (pv 5) zam (fun _ _=>rfl))) (pv 3)) (pe_op zfd (pv 1) (pv 2))) (zbk _)))))))),?_⟩
  show tSeq _ _ _ [some (.ref t),some (.int lo),some (.int hi),some (.int m),none,none,none] H
  obtain ⟨r,c,g,ps,a1,a2,a3,a4⟩:=D.ex
  refine zae fun R hR=>?_
  walk_at "rd"
  refine zbl (.of a1) (v:=.ref c) rfl (hR _ _ ?_)
  clear hR
  refine zae fun R hR=>?_
  walk_at "rd"
  refine zbl (.of a1) (v:=.ref g) rfl (hR _ _ ?_)
  clear hR
  refine zae fun R hR=>?_
  walk_at "rd"
  obtain ⟨x0,x1,y0,y1⟩:=zjg l6 h6 m6 lh
  generalize m*lo / hi=x at a2 a3 a4 x0 x1 y0 y1
  obtain ⟨pc,pg⟩:=zth (m:=m) (x:=x) l6.1 h6.1
  obtain ⟨zc,zg⟩:=zti l6 h6 m6 ⟨x0,by omega⟩
  generalize cmsQ lo m x=C at a3 pc zc
  generalize gapQ lo hi m x=G at a4 pg zg
  have dG:=Sw.q_den_pos G
  have dC:=Sw.q_den_pos C
  have lh0:0<lo*hi:=Int.mul_pos (by omega) (by omega)
  have g0:¬ G.num<0:=fun z=>by
   have h1:G.num*(lo*hi)<0:=Int.mul_neg_of_neg_of_pos z lh0
   have h2:0<=(G.den:Int)*(m*lo-x*hi):=Int.mul_nonneg (by omega) y0
   omega
  have g1:¬ (G.den:Int)<=G.num*lo:=fun z=>by
   have h1:(G.den:Int)*hi<=G.num*lo*hi:=Int.mul_le_mul_of_nonneg_right z (by omega)
   have h2:(G.den:Int)*(m*lo-x*hi)<(G.den:Int)*hi:=Int.mul_lt_mul_of_pos_left y1 dG
   rw [Int.mul_assoc] at h1
   omega
  have sl:Sw.Sz 200 lo:=(show Sw.Sz 70 lo from Sw.Sz.r18 (by omega) (by omega)).mono (by decide)
  have sh:Sw.Sz 200 hi:=(show Sw.Sz 70 hi from Sw.Sz.r18 (by omega) (by omega)).mono (by decide)
  have sm':Sw.Sz 200 m:=(show Sw.Sz 70 m from Sw.Sz.r18 (by omega) (by omega)).mono (by decide)
  have slh:Sw.Sz 200 (lo+hi):=(show Sw.Sz 70 (lo+hi) from Sw.Sz.r18 (by omega) (by omega)).mono (by decide)
  refine zbl (.of a4) (v:=.int G.num) rfl ⟨_,rfl,?_⟩
  rw [if_neg g0]
  refine zbl (.of a4) (v:=.int G.num) rfl ⟨_,rfl,⟨zg.n.mono (by decide),sl.mono (by decide)⟩,zbl (.of a4) (v:=.int G.den) rfl ⟨_,rfl,?_⟩⟩
  rw [if_neg g1]
  refine hR _ _ ?_
  clear hR
  refine zae fun R hR=>?_
  walk_at "rd"
  refine zbl (.of a3) (v:=.int C.num) rfl (zbl (.of a4) (v:=.int G.den) rfl ⟨_,rfl,_,rfl,⟨zc.n.mono (by decide),zg.d.mono (by decide)⟩,zbl (.of a4) (v:=.int G.num) rfl (zbl (.of a3) (v:=.int C.den) rfl ⟨_,rfl,_,rfl,⟨zg.n.mono (by decide),zc.d.mono (by decide)⟩,hR _ _ ?_⟩)⟩)
  clear hR
  have fin:(C.num*(G.den:Int)+G.num*(C.den:Int))*lo*hi=(C.den:Int)*(G.den:Int)*m*(lo+hi):=by
   generalize (C.den:Int)=cd at *
   generalize (G.den:Int)=gd at *
   grind
  have z1:Sw.Sz 1600 (C.num*(G.den:Int)+G.num*(C.den:Int)):=((zc.n.mul zg.d).add (zg.n.mul zc.d)).mono (by decide)
  walk_at "rd"
  refine ⟨⟨z1.mono (by decide),sl.mono (by decide)⟩,⟨(z1.mul sl).mono (by decide),sh.mono (by decide)⟩,?_⟩
  refine zbl (.of a3) (v:=.int C.den) rfl (zbl (.of a4) (v:=.int G.den) rfl ⟨_,rfl,_,rfl,?_⟩)
  walk_at "rd"
  refine ⟨⟨zc.d.mono (by decide),zg.d.mono (by decide)⟩,⟨(zc.d.mul zg.d).mono (by decide),sm'.mono (by decide)⟩,⟨((zc.d.mul zg.d).mul sm').mono (by decide),slh.mono (by decide)⟩,?_⟩
  rw [decide_eq_true fin]
  exact k _ fun _ _ e=>e
def LL (m x:Int):List D2:=if 0<x then [(1,x),(2,m)] else [(1,m)]
theorem ziq (m x:Int):prow m x=(0,true,m) :: (LL m x).map (fun g=>(1,false,g.2))++[(1,true,m)]:=by
 unfold prow LL
 split <;> rfl
theorem cr1 {a h L H:Rat} (e:h*H = 1):a*h*(L*H)=a*L:=by grind
theorem cr2 {b l L H:Rat} (e:l*L = 1):b*l*(L*H)=b*H:=by grind
theorem cross {lo hi a b:Int} (l0:1<=lo) (h0:1<=hi):(a*hi<=b*lo->(a:Rat) / (lo:Rat)<=(b:Rat) / (hi:Rat))/\(b*lo<a*hi->(b:Rat) / (hi:Rat)<(a:Rat) / (lo:Rat)):=by
 have l1:=Rat.mul_inv_cancel _ (Sw.q_cast_ne (show lo≠0 by omega))
 have h1:=Rat.mul_inv_cancel _ (Sw.q_cast_ne (show hi≠0 by omega))
 have lp:(0:Rat)<(lo:Rat)⁻¹:=Rat.inv_pos.mpr (Rat.intCast_pos.mpr (by omega))
 have hp:(0:Rat)<(hi:Rat)⁻¹:=Rat.inv_pos.mpr (Rat.intCast_pos.mpr (by omega))
 have pp:(0:Rat)<(lo:Rat)⁻¹ * (hi:Rat)⁻¹:=Rat.mul_pos lp hp
 rw [Rat.div_def,Rat.div_def]
 constructor
 ·intro h
  have h:((a*hi:Int):Rat)<=((b*lo:Int):Rat):=Rat.intCast_le_intCast.mpr h
  rw [Rat.intCast_mul,Rat.intCast_mul] at h
  have:=Rat.mul_le_mul_of_nonneg_right h (Rat.le_of_lt pp)
  rwa [cr1 h1,cr2 l1] at this
 ·intro h
  have h:((b*lo:Int):Rat)<((a*hi:Int):Rat):=Rat.intCast_lt_intCast.mpr h
  rw [Rat.intCast_mul,Rat.intCast_mul] at h
  have:=Rat.mul_lt_mul_of_pos_right h pp
  rwa [cr1 h1,cr2 l1] at this
theorem zxu {lo hi m:Int} (l6:Ok6 lo) (h6:Ok6 hi) (m6:Ok6 m) (lh:lo<=hi):Fits lo hi m (LL m (m*lo / hi)):=by
 obtain ⟨x0,x1,y0,y1⟩:=zjg l6 h6 m6 lh
 have mlo:0<=m*lo:=Int.mul_nonneg (by omega) (by omega)
 generalize m*lo / hi=x at x0 x1 y0 y1
 have big:m*lo<(x+m)*hi:=by
  have:1*hi<=m*hi:=Int.mul_le_mul_of_nonneg_right m6.1 (by omega)
  rw [Int.add_mul]; omega
 refine ⟨l6.1,h6.1,fun k hk=>(cross l6.1 h6.1).1 ?_,(cross l6.1 h6.1).2 ?_⟩
 ·unfold LL at hk ⊢
  split at hk
  ·rw [if_pos (by assumption)]
   match k,hk with
   | 0,_=>show 0*hi<=_; omega
   | 1,_=>show (x+0)*hi<=_; rw [Int.add_zero]; omega
  ·rw [if_neg (by assumption)]
   match k,hk with
   | 0,_=>show 0*hi<=_; omega
 ·unfold LL
  split
  ·show _ < (x+(m+0))*hi
   rw [Int.add_zero]; exact big
  ·show _ < (m+0)*hi
   have:x = 0:=by omega
   rw [this] at big
   simpa using big
theorem LL_ok {m x:Int} (m6:Ok6 m) (x1:x<=m):(LL m x).length<=2/\1<=(LL m x).length/\∀ j (h:j<(LL m x).length),((LL m x)[j]'h).1=j+1/\1<=((LL m x)[j]'h).2/\((LL m x)[j]'h).2<=m:=by
 unfold LL
 split
 ·refine ⟨Nat.le_refl _,by simp,fun j h=>?_⟩
  match j,h with
  | 0,_=>exact ⟨rfl,by show 1<=x; omega,x1⟩
  | 1,_=>exact ⟨rfl,m6.1,Int.le_refl _⟩
 ·refine ⟨by simp,by simp,fun j h=>?_⟩
  match j,h with
  | 0,_=>exact ⟨rfl,m6.1,Int.le_refl _⟩
structure RS (lo hi m:Int) (L:List D2) (i:Nat) (D:TD):Prop where
 ct:D.ct=i
 ms:D.most=m
 bd:Bd D
 st:(i = 0/\P2 lo hi D [] [] 0 0 0/\D.gs = []/\D.tm = 0/\D.fr = 0)\/(i = 1/\P2 lo hi D [] [(0,m)] 0 0 0/\D.gs = []/\D.tm = 0/\D.fr = 0)\/(2<=i/\i<=L.length+2/\P2 lo hi D (L.take (i-1)) (if i=L.length+2 then [((L.length:Int)+1,m)] else []) 0 ((m:Rat) / (hi:Rat)) 0/\nmz D.gs = [(0,highS)]/\D.tm = 1/\D.fr=m)
theorem Runs.none {t:Int} {D D':TD} (h:Runs t D D') (tt:t<=D.tm):D'=D:=by
 cases h with
 | stop _=>rfl
 | go h1 h2 _ _=>have:=h1.ge; omega
theorem zor {D:TD} {t:Int} (e:D.tm=t):{ D with tm:=t } = D:=by
 cases D
 cases e
 rfl
theorem RS.next {lo hi m x:Int} (m6:Ok6 m) (x1:x<=m) {i:Nat} {D:TD} (R:RS lo hi m (LL m x) i D) {at' len:Int} {b:Bool} (hi':(prow m x)[i]? = some (at',b,len)):D.tm<=at'/\at'<=1/\(1<=len/\len<=D.most)/\∀ D',Runs at' D D'->D'.p=D.p/\D'.most=D.most/\D'.ct=D.ct/\(∃ ql qh tl th ck,P2 lo hi { D' with tm:=at' } ql qh tl th ck)/\∀ n q,fndN D'.ns (nmB b)=some n->RS lo hi m (LL m x) (i+1) (TD.come { D' with tm:=at' } n q len):=by
 obtain ⟨l2,l1,lk⟩:=LL_ok m6 x1
 generalize eL:LL m x=L at R l2 l1 lk
 rw [ziq,eL] at hi'
 have ms:=R.ms
 have ct:=R.ct
 have B:=R.bd
 obtain ⟨n1,n2,n3⟩:=lh_ne
 have bct:=B.ct
 rcases R.st with ⟨rfl,P,e1,e2,e3⟩ | ⟨rfl,P,e1,e2,e3⟩ | ⟨i2,il,P,e1,e2,e3⟩
 ·
  cases hi'
  refine ⟨by omega,by omega,⟨m6.1,by omega⟩,fun D' h=>?_⟩
  have:=Runs.none h (by omega)
  subst this
  rw [zor e2]
  refine ⟨rfl,rfl,rfl,⟨_,_,_,_,_,P⟩,fun n q hn=>?_⟩
  have Pc:=P.come (q:=q) (len:=m) hn (.inr rfl) ⟨m6.1,by omega⟩ (by omega)
  rw [if_neg (show nmB true≠lowS from n1.symm),if_neg (show nmB true≠lowS from n1.symm),ct] at Pc
  exact ⟨by show D'.ct+1 = _; omega,ms,B.come (P.dy 0) hn,.inr (.inl ⟨rfl,Pc,e1,e2,e3⟩)⟩
 ·
  rw [List.cons_append,List.getElem?_cons_succ] at hi'
  have h0:(L.map (fun g:D2=>((1,false,g.2):R3))++[(1,true,m)])[0]? = some ((1:Int),false,(L[0]'(by omega)).2):=by
   rw [List.getElem?_append_left (by rw [List.length_map]; omega),List.getElem?_map,List.getElem?_eq_getElem (by omega)]; rfl
  rw [h0] at hi'
  cases hi'
  obtain ⟨k1,k2,k3⟩:=lk 0 (by omega)
  refine ⟨by omega,by omega,⟨k2,by omega⟩,fun D' h=>?_⟩
  cases h with
  | stop r =>
   have:=r highS 0 (by omega) (by omega) (P.may (.inr ⟨rfl,by simp⟩) 0)
   omega
  | @go _ _ a y pre g p h1 h2 h3 h4 =>
   have ea:=P.nx h1
   rcases P.step h3 with ⟨_,r,er,_⟩ | ⟨ey,r,er,_,Ps⟩
   ·cases er
   ·obtain ⟨eg,er⟩:=List.cons.inj er
    subst er
    subst eg
    have Ps:=Ps p
    have dn:D'=D.step (Rdy D a) (y :: pre) y a (0,m) p:=by
     cases h4 with
     | stop _=>rfl
     | go j1 _ _ _ =>
      obtain ⟨z,mz⟩:=j1.may
      rcases Ps.who mz with ⟨_,w⟩ | ⟨_,w⟩ <;> exact absurd rfl w
    subst dn
    refine ⟨rfl,rfl,rfl,⟨_,_,_,_,_,Ps.time⟩,fun n q hn=>?_⟩
    have Pt:=Ps.time (t:=1)
    have wl:=(h3.dy (P.dy a) (Int.le_refl _) p).2
    have gl:(D.step (Rdy D a) (y :: pre) y a (0,m) p).gs.length = 1:=by
     show (D.gs++[_]).length = 1
     rw [e1]; rfl
    have Pc:=Pt.come (q:=q) (len:=(L[0]'(by omega)).2) hn (.inl rfl) ⟨k2,by show _<=D.most; omega⟩ (by show waits (D.step (Rdy D a) (y :: pre) y a (0,m) p).ns+(D.step (Rdy D a) (y :: pre) y a (0,m) p).gs.length<120; rw [e1] at bct; omega)
    rw [if_pos (show nmB false=lowS from rfl),if_pos (show nmB false=lowS from rfl),List.nil_append,zkn Rat.le_refl,Rat.zero_add] at Pc
    have t1:L.take 1 = [(D.ct,(L[0]'(by omega)).2)]:=by
     cases L with
     | nil=>simp at l1
     | cons g0 r0 =>
      show [g0] = [(D.ct,g0.2)]
      have k1:g0.1=((0:Nat):Int)+1:=k1
      rw [ct,show ((1:Nat):Int)=g0.1 by omega]
    refine ⟨by show D.ct+1 = _; omega,ms,Bd.come ⟨by show (0:Int)<=1; decide,?_,?_⟩ (Pt.dy 0) hn,.inr (.inr ⟨by omega,by omega,?_,?_,rfl,?_⟩)⟩
    ·show 0<=a+m/\a+m<=1+D.most
     omega
    ·show ((waits (D.step (Rdy D a) (y :: pre) y a (0,m) p).ns+(D.step (Rdy D a) (y :: pre) y a (0,m) p).gs.length:Nat):Int)<=D.ct
     rw [e1] at bct
     have:([]:List D3).length = 0:=rfl
     omega
    ·rw [if_neg (by omega)]
     show P2 lo hi _ (L.take 1) [] _ _ _
     rw [t1]
     exact Pc
    ·show nmz (D.gs++[(a,0,y)]) = _
     rw [e1,ey]; rfl
    ·show a+m=m
     omega
 ·have il2:i<L.length+2:=by
   have:=(List.getElem?_eq_some_iff.mp hi').1
   simp only [List.cons_append,List.length_cons,List.length_append,List.length_map,List.length_nil] at this
   omega
  obtain ⟨j,rfl⟩:∃ j,i=j+1:=⟨i-1,by omega⟩
  rw [List.cons_append,List.getElem?_cons_succ] at hi'
  rw [Nat.add_sub_cancel] at P
  rcases Nat.lt_or_ge j L.length with jl | jl
  ·have h0:(L.map (fun g:D2=>((1,false,g.2):R3))++[(1,true,m)])[j]? = some ((1:Int),false,(L[j]'jl).2):=by
    rw [List.getElem?_append_left (by rw [List.length_map]; omega),List.getElem?_map,List.getElem?_eq_getElem jl]; rfl
   rw [h0] at hi'
   cases hi'
   obtain ⟨k1,k2,k3⟩:=lk j jl
   refine ⟨by omega,by omega,⟨k2,by omega⟩,fun D' h=>?_⟩
   have:=Runs.none h (by omega)
   subst this
   rw [zor e2]
   refine ⟨rfl,rfl,rfl,⟨_,_,_,_,_,P⟩,fun n q hn=>?_⟩
   have Pc:=P.come (q:=q) (len:=(L[j]'jl).2) hn (.inl rfl) ⟨k2,by omega⟩ (by omega)
   rw [if_pos (show nmB false=lowS from rfl),if_pos (show nmB false=lowS from rfl),if_neg (by omega)] at Pc
   refine ⟨by show D'.ct+1 = _; omega,ms,B.come (P.dy 0) hn,.inr (.inr ⟨by omega,by omega,?_,e1,e2,e3⟩)⟩
   rw [if_neg (by omega),Nat.add_sub_cancel,List.take_succ_eq_append_getElem jl]
   have:(L[j]'jl)=(D'.ct,(L[j]'jl).2):=by
    rw [ct]
    exact Prod.ext (by rw [k1]; simp) rfl
   rw [this]
   exact Pc
  ·have ej:j=L.length:=by omega
   subst ej
   have h0:(L.map (fun g:D2=>((1,false,g.2):R3))++[(1,true,m)])[L.length]? = some ((1:Int),true,m):=by
    rw [List.getElem?_append_right (by rw [List.length_map]; omega),List.length_map,Nat.sub_self]; rfl
   rw [h0] at hi'
   cases hi'
   refine ⟨by omega,by omega,⟨m6.1,by omega⟩,fun D' h=>?_⟩
   have:=Runs.none h (by omega)
   subst this
   rw [zor e2]
   refine ⟨rfl,rfl,rfl,⟨_,_,_,_,_,P⟩,fun n q hn=>?_⟩
   have Pc:=P.come (q:=q) (len:=m) hn (.inr rfl) ⟨m6.1,by omega⟩ (by omega)
   rw [if_neg (show nmB true≠lowS from n1.symm),if_neg (show nmB true≠lowS from n1.symm),if_neg (by omega),List.nil_append,List.take_length,ct] at Pc
   refine ⟨by show D'.ct+1 = _; omega,ms,B.come (P.dy 0) hn,.inr (.inr ⟨by omega,by omega,?_,e1,e2,e3⟩)⟩
   rw [if_pos rfl,List.take_of_length_le (by omega)]
   have:((L.length+1:Nat):Int)=(L.length:Int)+1:=by omega
   rw [this] at Pc
   exact Pc
theorem RS.mid {lo hi m:Int} {L:List D2} {D:TD} (R:RS lo hi m L (L.length+2) D) (h6:Ok6 hi) (m6:Ok6 m):Mid lo hi m L ((L.length:Int)+1) D:=by
 have ms:=R.ms
 rcases R.st with ⟨z,_⟩ | ⟨z,_⟩ | ⟨_,_,P,e1,e2,e3⟩
 ·omega
 ·have:L = []:=List.eq_nil_of_length_eq_zero (by omega)
  omega
 ·rw [if_pos rfl,List.take_of_length_le (by omega)] at P
  have gl:D.gs.length = 1:=by
   have:=congrArg List.length e1
   unfold nmz at this
   rw [List.length_map] at this
   exact this
  have t0:(0:Rat)=((0:Int):Rat) / (lo:Rat):=by rw [Rat.div_def]; show (0:Rat)=(0:Rat) * _; rw [Rat.zero_mul]
  have z0:(0:Rat)<=(m:Rat) / (hi:Rat):=by
   rw [Rat.div_def]
   exact Rat.mul_nonneg (Rat.intCast_nonneg.mpr (by omega)) (Rat.le_of_lt (Rat.inv_pos.mpr (Rat.intCast_pos.mpr (by omega))))
  exact ⟨_,_,_,_,_,0,[],P,Nat.zero_le _,e1,by simp,rfl,t0,rfl,Rat.le_refl,z0,by rw [gl]; omega,by omega⟩
theorem zko:∀ {ns:List ND},(∀ m∈ns,m.qu = [])->waits ns = 0
 | [],_=>rfl
 | a :: r,h=>by
  have:=zko (ns:=r) fun m hm=>h m (List.mem_cons_of_mem _ hm)
  unfold waits at this ⊢
  rw [List.map_cons,List.sum_cons,this,h a (List.mem_cons_self ..)]; rfl
structure T0 (C:Cl) (H0:Hp) (D0:TD) (v:Nat) (H:Hp) (D:TD) (zs:List (Str×Int)):Prop where
 O:TrOk C H D
 Y:D.Dy 0 v
 nb:NoB D
 qr:∀ n∈D.ns,n.qu = []/\n.rm = .non
 rd:∃ n a tg gs ch N,fndN D.ns road=some n/\n.ch=some (a,.st zs tg gs 0 ch N)/\∀ z∈zs,tg z.1=some 0
 lf:∀ z∈zs,∃ n,fndN D.ns z.1=some n/\n.ch=none/\n.qu = []
 nm:D.ns.map (·.nm)=road :: zs.map (·.1)
 kp:Deed D0.foot H0 H
 fr:∀ b∈D.foot,b∈D0.foot\/H0 b=none
 p:D.p=D0.p
 ze:D.tm = 0/\D.fr = 0/\D.ct = 0/\D.gs = []
 ms:D.most=D0.most
theorem T0.put {C:Cl} {H0:Hp} {D0 D D':TD} {v:Nat} {H H':Hp} {z:Str} {s:Int} {zs:List (Str×Int)} (B:T0 C H0 D0 v H D zs) (v6:v<=4) (PO:PutOk C D z road (Str.ofString "leaf") s .non H H' D') (du:dueP D z road (Str.ofString "leaf") s .non=none) (zr:z≠road) (zl:zs.length<=4):T0 C H0 D0 (v+1) H' D' (zs++[(z,s)]):=by
 have nl:D.ns.length=zs.length+1:=by have:=congrArg List.length B.nm; rw [List.length_map,List.length_cons,List.length_map] at this; exact this
 have Y':=PO.dy du B.Y (by omega) (by omega)
 have ft':=PO.foot
 obtain ⟨nok,hx,⟨n0,hu',ok,_,_⟩,sh⟩:=zoq du
 obtain ⟨un,c,n,rfl,hu,hc,h1,h2,h3,h4,h5,h6,h7,h8,h9,h10,h11⟩:=PO
 obtain ⟨uin,une⟩:=zas hu
 have mem:∀ y∈(D.put un c s n).ns,y = { un with ch:=some (c.1,c.2.put n.nm s) }\/y∈D.ns\/y=n:=fun y hy=>by
  rcases List.mem_append.mp hy with q | q
  ·rcases zfw q with q | q
   ·exact .inl q
   ·exact .inr (.inl q.1)
  ·exact .inr (.inr (List.mem_singleton.mp q))
 have hz':fndN (setN D.ns { un with ch:=some (c.1,c.2.put n.nm s) }) n.nm=none:=by
  rw [zie,h1,hx]
  split <;> rfl
 have fd:∀ y,fndN (D.put un c s n).ns y=if y=z then some n else if y=road then some { un with ch:=some (c.1,c.2.put z s) } else fndN D.ns y:=fun y=>by
  show fndN (setN D.ns _++[n]) y = _
  rw [zsl hz',h1]
  by_cases q:y=z
  ·rw [if_pos q,if_pos q]
  ·rw [if_neg q,if_neg q,zie]
   by_cases w:y=road
   ·rw [if_pos w,if_pos (w.trans une.symm),w,hu]; rfl
   ·rw [if_neg w,if_neg (fun k=>w (k.trans une))]
 obtain ⟨nr,ar,tg,gs,ch,N,r1,r2,r3⟩:=B.rd
 rw [hu] at r1
 cases r1
 rw [hc] at r2
 cases r2
 have zn:∀ w∈zs,w.1≠z:=fun w hw e=>by
  obtain ⟨m,hm,_⟩:=B.lf w hw
  rw [e,hx] at hm; cases hm
 have wr:∀ w∈zs,w.1≠road:=fun w hw e=>by
  obtain ⟨m,hm,hch,_⟩:=B.lf w hw
  rw [e,hu] at hm; cases hm; rw [hc] at hch; cases hch
 refine ⟨h10,Y',fun y hy=>?_,fun y hy=>?_,⟨_,_,_,_,_,_,by rw [fd,if_neg zr.symm,if_pos rfl],rfl,fun w hw=>?_⟩,fun w hw=>?_,?_,fun b o nb e=>?_,fun b hb=>?_,B.p,B.ze,B.ms⟩
 ·rcases mem y hy with q | q | q
  ·rw [q]; exact B.nb un uin
  ·exact B.nb y q
  ·rw [q]; exact h4
 ·rcases mem y hy with q | q | q
  ·rw [q]; exact B.qr un uin
  ·exact B.qr y q
  ·rw [q]; exact ⟨h6,h3⟩
 ·unfold setS
  rcases List.mem_append.mp hw with q | q
  ·rw [if_neg (zn w q)]; exact r3 w q
  ·rw [List.mem_singleton.mp q,if_pos rfl]
 ·rcases List.mem_append.mp hw with q | q
  ·obtain ⟨m,hm,m2⟩:=B.lf w q
   exact ⟨m,by rw [fd,if_neg (zn w q),if_neg (wr w q)]; exact hm,m2⟩
  ·rw [List.mem_singleton.mp q]
   exact ⟨n,by rw [fd,if_pos rfl],h7 rfl,h6⟩
 ·show (setN D.ns _++[n]).map _ = _
  rw [List.map_append,zlw,B.nm,List.map_append,List.cons_append,List.map_cons,h1]; rfl
 ·have nf:b ∉ D.foot:=fun q=>by
   rcases B.fr b q with r | r
   ·exact nb r
   ·rw [e] at r; cases r
  exact h11 _ _ nf (B.kp b o nb e)
 ·rcases ft' b hb with q | q
  ·exact B.fr b q
  ·by_cases r:b∈D0.foot
   ·exact .inl r
   ·right
    cases e:H0 b with
    | none=>rfl
    | some o=>rw [B.kp b o r e] at q; cases q
theorem T0.rs {C:Cl} {H0:Hp} {D0:TD} {H:Hp} {D:TD} {lo hi m:Int} {L:List D2} (B:T0 C H0 D0 2 H D [(lowS,lo),(highS,hi)]) (em:D0.most=m):RS lo hi m L 0 D:=by
 obtain ⟨z1,z2,z3,z4⟩:=B.ze
 obtain ⟨n,a,tg,gs,ch,N,r1,r2,r3⟩:=B.rd
 have Y:=B.Y
 have m1:=Y.W.m1
 refine ⟨z3,B.ms.trans em,⟨by omega,by omega,?_⟩,.inl ⟨rfl,⟨⟨n,a,tg,gs,ch,N,r1,r2,r3 (lowS,lo) (by simp),r3 (highS,hi) (by simp)⟩,B.lf (lowS,lo) (by simp),B.lf (highS,hi) (by simp),B.nm,B.nb,fun n hn=>(B.qr n hn).2,0,⟨Y.W,fun n hn c hc=>⟨(Y.fin n hn c hc).1,by have:=(Y.fin n hn c hc).2; omega⟩,Y.bk,Y.lv,Y.qu,Y.bud,Y.ln,by decide⟩⟩,z4,z1,z2⟩⟩
 rw [zko fun m hm=>(B.qr m hm).1,z4,z3]
 exact Int.le_refl _
theorem zqb {D:TD} {n n':ND} {Pb:Addr->Prop} (nin:n∈D.ns) (hf:∀ b∈n'.foot,b∈n.foot\/Pb b):∀ b∈TD.foot { D with ns:=setN D.ns n' },b∈D.foot\/Pb b:=by
 intro b hb
 unfold TD.foot at hb
 rcases List.mem_cons.mp hb with z | hb
 ·exact .inl (z ▸ List.mem_cons_self ..)
 rcases List.mem_cons.mp hb with z | hb
 ·exact .inl (z ▸ List.mem_cons_of_mem _ (List.mem_cons_self ..))
 rcases List.mem_cons.mp hb with z | hb
 ·exact .inl (z ▸ List.mem_cons_of_mem _ (List.mem_cons_of_mem _ (List.mem_cons_self ..)))
 obtain ⟨y,hy,z⟩:=List.mem_flatMap.mp hb
 rcases zfw hy with q | q
 ·rw [q] at z
  exact (hf b z).imp (fun w=>TD.mem_node nin w) id
 ·exact .inl (TD.mem_node q.1 z)
theorem ztj {D:TD} (W:D.Wf) {ys:List Str} (U:Up D.ns road ys):ys.length<=5:=by
 obtain ⟨n,h1,h2,_⟩:=W.rdN
 rw [<- (Up.top h1 h2).det U]; decide
theorem RS.p2 {lo hi m:Int} {L:List D2} {i:Nat} {D:TD} (R:RS lo hi m L i D):∃ ql qh tl th ck,P2 lo hi D ql qh tl th ck:=by
 rcases R.st with ⟨_,P,_⟩ | ⟨_,P,_⟩ | ⟨_,_,P,_⟩ <;> exact ⟨_,_,_,_,_,P⟩
theorem P2.leaf {lo hi:Int} {D:TD} {ql qh:List D2} {tl th ck:Rat} (h:P2 lo hi D ql qh tl th ck) (b:Bool):∃ n,fndN D.ns (nmB b)=some n/\n.ch=none:=by
 cases b
 ·obtain ⟨n,h1,h2,_⟩:=h.lw
  exact ⟨n,h1,h2⟩
 ·obtain ⟨n,h1,h2,_⟩:=h.hg
  exact ⟨n,h1,h2⟩
theorem P2.psl {lo hi:Int} {D:TD} {ql qh:List D2} {tl th ck:Rat} (h:P2 lo hi D ql qh tl th ck) {C:Cl} {H:Hp} (O:TrOk C H D):∀ n∈D.ns,n.ps.length<=890/\(n.rm = .non\/∃ r,n.rm = .int r):=fun n hn=>⟨by
 have:=(O.nd n hn).qu.r.len
 have:=zsv hn
 have:=(h.dy 0).bud
 omega,.inl (h.rm n hn)⟩
theorem zqc (b:Bool):nmB b≠road:=by cases b <;> decide +kernel
def lensL (m x:Int):List Int:=(prow m x).map (·.2.2)
def zxv (C:Cl):Sp:=fun vs H Q _=>∃ (lo hi m:Int) (rl:Addr) (ps:List Addr),vs = [.int lo,.int hi,.int m,.ref rl]/\Rw3 H rl ps (prow m (m*lo / hi))/\Ok6 lo/\Ok6 hi/\Ok6 m/\lo<=hi/\∀ (t ll:Addr) (D:TD) H',H' t=some (.tup [.ref D.p,.ref ll])->TrOk C H' D->RS lo hi m (LL m (m*lo / hi)) ((LL m (m*lo / hi)).length+2) D->H' ll=some (.lst ((lensL m (m*lo / hi)).map V.int))->ll ∉ D.foot->(∀ b o,H b=some o->H' b=some o/\b ∉ D.foot)->Q (.ref t) H'
theorem zos (T:Txt K mg c_NoName c_Taken c_NoClass c_NoPlace c_NoShare c_NoLength c_TooEarly c_NoneReady c_Members c_Chooser c_Starts c_Rounds c_Node c_Tree):Def P w K mg base (CXX P w) 10 "_law_tree" ["_law_low", "_law_high", "_law_most", "_law_row"] (zxv (⟨c_Node,c_Starts,c_Rounds,c_Members,c_Node,c_Tree⟩:Cl)):=by
 have K_Tree:=zzo (P:=P) (w:=w) (base:=base) T
 have M_Tree_put:=zqr (P:=P) (w:=w) (base:=base) T
 have M_Tree_until:=zix (P:=P) (w:=w) (base:=base) T
 have M_Tree_come:=zkl (P:=P) (w:=w) (base:=base) T
 refine T.src__law_tree.okN (k:=9) sc__law_tree (fun vs H Q E h=>?_) (fun f cdv A outer s H vs Q E hr h=>?_)
 ·obtain ⟨lo,hi,m,rl,ps,rfl,_⟩:=h
  rfl
 ·obtain ⟨lo,hi,m,rl,ps,rfl,RW,l6,hh6,m6,lh,k⟩:=h
  refine ⟨_,(zad (zbc (i:=4) sc__law_tree.nd rfl (by first|left;rfl|right;rfl) (zhd (dvs:=[V.str (Str.ofString "starts")]) K_Tree (by simp) (hr.mono (by decide)) passN rfl T.mg_Tree (zaa (pv 2) zaf))) (zad (zay (zar (dvs:=[V.non]) M_Tree_put (by simp) T.cl_Tree (hr.mono (by decide)) passN (pv 4) (zaa zbz (zaa zbz (zaa zbz (zaa (pv 0) zaf)))))) (zad (zay (zar (dvs:=[V.non]) M_Tree_put (by simp) T.cl_Tree (hr.mono (by decide)) passN (pv 4) (zaa zbz (zaa zbz (zaa zbz (zaa (pv 1) zaf)))))) (zad (zbc (i:=5) sc__law_tree.nd rfl (by first|left;rfl|right;rfl) (zgl zaf)) (zad (zis PassesOwn.never rfl (zcr K rfl (pv 3)) (zia (n:=3) K rfl rfl (zde (zbm (i:=6) sc__law_tree.nd rfl (by first|left;rfl|right;rfl)) (zde (zbm (i:=7) sc__law_tree.nd rfl (by first|left;rfl|right;rfl)) (zde (zbm (i:=8) sc__law_tree.nd rfl (by first|left;rfl|right;rfl)) zhy)))) (zad (zay (zar (dvs:=[]) M_Tree_until (by simp) T.cl_Tree (hr.mono (by decide)) passN (pv 4) (zaa (pv 6) zaf))) (zad (ps_if (zba op_ne (zar (dvs:=[]) M_Tree_come (by simp) T.cl_Tree (hr.mono (by decide)) passN (pv 4) (zaa (pv 7) (zaa (pv 8) zaf))) (zcq (zgc K rfl) rfl T.no_len boot_len (zaa (pv 5) zaf)) (zbk _)) (zah (zbd zdn)) zbb) (zah (zay (pe_bm PySem.F.plainAttrs_list PySem.F.slot_list_append PySem.F.type_list_append zdo (pv 5) (zaa (pv 8) zaf))))))) (zah (zbd (zfz (zaa (pv 4) (zaa (pv 5) zaf)))))))))),?_⟩
  show tSeq _ _ _ [some (.int lo),some (.int hi),some (.int m),some (.ref rl),none,none,none,none,none] H
  refine zae fun R hR=>?_
  walk_at "rd"
  intro x dx hx hdx ne
  refine ⟨x,dx,m,Str.ofString "starts", rfl,zac,fun z=>absurd m6 z,fun _ z=>absurd (.inl rfl) z,fun _ _ pn pg n a H1 en bt fr O=>⟨rfl,hR _ _ ?_⟩⟩
  clear hR
  have sH:Same H H1:=fun b o e=>bt b o (zan e hx) (zdp hx hdx _ _ e)
  have kb:kdB (Str.ofString "starts")=false:=by decide +kernel
  rw [kb] at en
  have W0:TD.Wf ⟨x,pn,pg,m,0,0,0,[n],[],[]⟩:=TD.Wf.new (n:=n) (a:=a) (b:=false) rfl (by rw [en]) (by rw [en]) (by rw [en]) m6
  have fn:fndN [n] n.nm=some n:=by unfold fndN; simp
  have enm:n.nm=road:=by rw [en]
  have nqu:n.qu = []:=by rw [en]
  have B0:T0 (⟨c_Node,c_Starts,c_Rounds,c_Members,c_Node,c_Tree⟩:Cl) H1 ⟨x,pn,pg,m,0,0,0,[n],[],[]⟩ 0 H1 ⟨x,pn,pg,m,0,0,0,[n],[],[]⟩ []:=by
   refine ⟨O,⟨W0,fun y hy d hd=>?_,fun y hy b hb=>?_,fun y hy hq=>?_,fun y hy g hg=>?_,?_,by show 1<=60; omega,by omega⟩,fun y hy=>?_,fun y hy=>?_,⟨n,a,fun _=>none,fun _=>none,.non,0,by rw [<- enm]; exact fn,by rw [en]; rfl,fun z hz=>absurd hz List.not_mem_nil⟩,fun z hz=>absurd hz List.not_mem_nil,by show [n].map _ = _; rw [List.map_cons,enm]; rfl,fun b o _ e=>e,fun b hb=>.inl hb,rfl,⟨rfl,rfl,rfl,rfl⟩,rfl⟩
   ·rw [List.mem_singleton.mp hy,en] at hd
    cases hd
    exact ⟨CSt.Fine.new false,Nat.zero_le _⟩
   ·rw [List.mem_singleton.mp hy,en] at hb; cases hb
   ·rw [List.mem_singleton.mp hy,nqu] at hq; exact absurd rfl hq
   ·rw [List.mem_singleton.mp hy,nqu] at hg; cases hg
   ·show waits [n] + 0<=120
    rw [zko fun m hm=>by rw [List.mem_singleton.mp hm]; exact nqu]; decide
   ·rw [List.mem_singleton.mp hy,en]
   ·rw [List.mem_singleton.mp hy,en]; exact ⟨rfl,rfl⟩
  have fH:∀ b∈TD.foot ⟨x,pn,pg,m,0,0,0,[n],[],[]⟩,H b=none:=fun b hb=>by
   cases e:H b with
   | none=>rfl
   | some o =>
    rcases fr b hb with q | q
    ·subst q; exact absurd (e.symm.trans hx) (by simp)
    ·rw [zdp hx hdx _ _ e] at q; cases q
  have px:(⟨x,pn,pg,m,0,0,0,[n],[],[]⟩:TD).p=x:=rfl
  have mx:(⟨x,pn,pg,m,0,0,0,[n],[],[]⟩:TD).most=m:=rfl
  clear bt fr hx hdx en W0 O fn enm nqu
  generalize (⟨x,pn,pg,m,0,0,0,[n],[],[]⟩:TD)=D0 at B0 fH px mx
  have nok:zej lowS/\zej highS:=by decide +kernel
  obtain ⟨nlh,nlr,nhr⟩:=lh_ne
  refine zae fun R hR=>?_
  walk_at "rd"
  obtain ⟨un,_,_,_,_,_,hun,hcu,_⟩:=B0.rd
  have du:dueP D0 lowS road (Str.ofString "leaf") lo .non=none:=zlx nok.1 (fnd_none.mpr (by rw [B0.nm]; simp [nlr])) hun ⟨.inl rfl,by rw [hcu]; simp,fun ys U=>ztj B0.Y.W U⟩ l6 fun ⟨_,r,e,_⟩=>by cases e
  obtain ⟨dx,fs,hp,ft⟩:=B0.O.ex
  rw [px] at hp
  refine zav hp (miz ft _) ⟨D0,lowS,road,Str.ofString "leaf", lo,.non,by rw [px]; rfl,B0.O,B0.Y.W,B0.Y.fit,⟨(zmi nok.1).1,by decide +kernel⟩,.inl rfl,fun r e=>(by rw [du] at e; cases e),fun _ un' c' n' H2 h1 h2 h3 h4 h5 h6 h7 h8 h9 h10 h11 h12 h13=>hR _ _ ?_⟩
  clear hR hp ft hun hcu
  have B1:=B0.put (by decide) (D':=D0.put un' c' lo n') (H':=H2) ⟨un',c',n',rfl,h1,h2,h3,h4,h5,h6,h7,h8,h9,h10,h11,h12,h13⟩ du nlr (by decide)
  clear h1 h2 h3 h4 h5 h6 h7 h8 h9 h10 h11 h12 h13 du
  generalize D0.put un' c' lo n'=D1 at B1
  clear un' c' n'
  refine zae fun R hR=>?_
  walk_at "rd"
  obtain ⟨un,_,_,_,_,_,hun,hcu,_⟩:=B1.rd
  have du:dueP D1 highS road (Str.ofString "leaf") hi .non=none:=zlx nok.2 (fnd_none.mpr (by rw [B1.nm]; simp [nhr,nlh.symm])) hun ⟨.inl rfl,by rw [hcu]; simp,fun ys U=>ztj B1.Y.W U⟩ hh6 fun ⟨_,r,e,_⟩=>by cases e
  obtain ⟨dx,fs,hp,ft⟩:=B1.O.ex
  rw [B1.p,px] at hp
  refine zav hp (miz ft _) ⟨D1,highS,road,Str.ofString "leaf", hi,.non,by rw [B1.p,px]; rfl,B1.O,B1.Y.W,B1.Y.fit,⟨(zmi nok.2).1,by decide +kernel⟩,.inl rfl,fun r e=>(by rw [du] at e; cases e),fun _ un' c' n' H3 h1 h2 h3 h4 h5 h6 h7 h8 h9 h10 h11 h12 h13=>hR _ _ ?_⟩
  clear hR hp ft hun hcu
  have B2:=B1.put (by decide) (D':=D1.put un' c' hi n') (H':=H3) ⟨un',c',n',rfl,h1,h2,h3,h4,h5,h6,h7,h8,h9,h10,h11,h12,h13⟩ du nhr (by simp)
  clear h1 h2 h3 h4 h5 h6 h7 h8 h9 h10 h11 h12 h13 du
  generalize D1.put un' c' hi n'=D2 at B2
  clear un' c' n' B1
  have RS0:RS lo hi m (LL m (m*lo / hi)) 0 D2:=T0.rs (B:=B2) mx
  have fr3:∀ b o,H b=some o->H3 b=some o/\b ∉ D2.foot:=fun b o e=>by
   have nb:b ∉ D0.foot:=fun z=>by rw [fH b z] at e; cases e
   exact ⟨B2.kp b o nb (sH _ _ e),fun z=>(B2.fr b z).elim nb fun q=>by rw [sH _ _ e] at q; cases q⟩
  have O3:=B2.O
  have p3:D2.p=x:=B2.p.trans px
  clear B2 B0 fH sH
  refine zae fun R hR=>?_
  walk_at "rd"
  intro ll fll
  refine hR _ _ ?_
  clear hR
  have s4:=zap (o:=.lst []) fll
  have llf:ll ∉ D2.foot:=O3.free fll
  have llH:H ll=none:=by
   cases e:H ll with
   | none=>rfl
   | some o=>rw [(fr3 _ _ e).1] at fll; cases fll
  have hll:upd H3 ll (.lst []) ll=some (.lst (((lensL m (m*lo / hi)).take 0).map V.int)):=zac
  have fr4:∀ b o,H b=some o->upd H3 ll (.lst []) b=some o/\b ∉ D2.foot:=fun b o e=>⟨s4 _ _ (fr3 b o e).1,(fr3 b o e).2⟩
  have O4:=O3.same s4
  show tSeq _ _ _ _ (upd H3 ll (.lst []))
  generalize upd H3 ll (.lst [])=H4 at hll fr4 O4 ⊢
  clear s4 fll fr3 O3
  obtain ⟨x0,x1,_,_⟩:=zjg l6 hh6 m6 lh
  generalize m*lo / hi=fx at *
  refine zae fun R hR=>?_
  refine zfg fun Z hZ=>?_
  walk_at "rd"
  refine ⟨⟨_,.of (fr4 _ _ RW.hl).1⟩,hZ _ _ ?_⟩
  clear hZ
  have pl:=RW.r.len
  refine zfc (K:=K) (a:=rl) (xs:=ps.map V.ref) (fun i σ H'=>∃ v6 v7 v8 D,σ = [some (.int lo),some (.int hi),some (.int m),some (.ref rl),some (.ref x),some (.ref ll),v6,v7,v8]/\TrOk (⟨c_Node,c_Starts,c_Rounds,c_Members,c_Node,c_Tree⟩:Cl) H' D/\RS lo hi m (LL m fx) i D/\H' ll=some (.lst (((lensL m fx).take i).map V.int))/\ll ∉ D.foot/\D.p=x/\∀ b o,H b=some o->H' b=some o/\b ∉ D.foot) ⟨none,none,none,D2,rfl,O4,RS0,hll,llf,p3,fr4⟩ (fun i σ H' _ ⟨_,_,_,_,_,_,_,_,_,_,h⟩=>.of (h _ _ RW.hl).1) ?_ ?_
  ·rintro i w0 σ H5 hv ⟨v6,v7,v8,D,rfl,O,RSi,hl,lf,pp,fr5⟩
   obtain ⟨p,hp',rfl⟩:∃ p,ps[i]? = some p/\V.ref p=w0:=by
    rw [List.getElem?_map] at hv
    cases e:ps[i]? with
    | none=>rw [e] at hv; cases hv
    | some z=>rw [e] at hv; exact ⟨z,rfl,Option.some.inj hv⟩
   obtain ⟨⟨at',b,len⟩,hg,ht⟩:=RW.r.get hp'
   obtain ⟨t1,t2,lb,nxt⟩:=RSi.next m6 x1 hg
   refine ⟨p,_,rfl,.of (fr5 _ _ ht).1,rfl,?_⟩
   refine ⟨_,_,rfl,_,_,rfl,_,_,rfl,rfl,?_⟩
   show tSeq _ _ _ [some (.int lo),some (.int hi),some (.int m),some (.ref rl),some (.ref x),some (.ref ll),some (.int at'),some (.str (nmB b)),some (.int len)] H5
   refine zfl fun N hN=>?_
   obtain ⟨ql,qh,tl,th,ck,P5⟩:=RSi.p2
   have bd:=RSi.bd
   have tb0:=bd.t0
   have fb:=bd.f0
   have m1:=(P5.dy 0).W.m1
   obtain ⟨dx,fs,hp,ft⟩:=O.ex
   rw [pp] at hp
   refine zae fun R hR=>?_
   walk_at "rd"
   refine zav hp (miz ft _) ⟨D,at',6,by rw [pp],O,P5.dy _,⟨by omega,by omega,by omega,by omega⟩,P5.nb,fun z=>absurd z (by omega),fun _ D' H6 rn ef O6 d6=>hR _ _ ?_⟩
   clear hR hp ft
   obtain ⟨q1,q2,q3,⟨ql',qh',tl',th',ck',P6⟩,nxt⟩:=nxt D' rn
   have ef:({ D' with tm:=at' }:TD).foot=D.foot:=ef
   obtain ⟨nd,hnd,hcd⟩:=P6.leaf b
   obtain ⟨dx,fs,hp,ft⟩:=O6.ex
   have hp:H6 x=some (.ins c_Tree dx fs):=by rw [<- pp,<- q1]; exact hp
   refine zae fun R hR=>?_
   walk_at "rd"
   refine zav hp (miz ft _) ⟨{ D' with tm:=at' },nmB b,len,by rw [<- pp,<- q1],O6,(P6.dy 0).W,P6.psl O6,fun z=>absurd (z.resolve_left (zqc b)) (by rw [hnd]; simp),fun _ m' hm z=>(by rw [hnd] at hm; cases hm; exact absurd hcd z),fun _ m' hm _=>⟨fun z=>absurd (show 1<=len/\len<=D'.most by omega) z,fun _=>⟨fun z=>?_,fun _ qa H7 fqa O7 d7=>?_⟩⟩⟩
   ·rw [P6.rm m' (zas hm).1] at z; cases z
   ·rw [hnd] at hm
    cases hm
    have hl6:=d6 _ _ lf hl
    have lf6:ll ∉ ({ D' with tm:=at' }:TD).foot:=by rw [ef]; exact lf
    have hl7:=d7 _ _ lf6 hl6
    have hgl:(lensL m fx)[i]? = some len:=by
     unfold lensL
     rw [List.getElem?_map,hg]; rfl
    have il:=(List.getElem?_eq_some_iff.mp hgl).1
    have tl:((lensL m fx).take i).length=i:=by rw [List.length_take]; omega
    have i4:i<10:=by
     have:(lensL m fx).length<=4:=by
      unfold lensL
      rw [List.length_map,ziq]
      have:=(LL_ok m6 x1).1
      simp only [List.cons_append,List.length_cons,List.length_append,List.length_map,List.length_nil]
      omega
     omega
    refine zpe (.of hl7) ⟨rfl,?_⟩
    rw [if_pos (by rw [List.length_map,tl]; show V.int D'.ct = _; rw [q3,RSi.ct])]
    refine hR _ _ ?_
    clear hR
    walk_at "rd"
    refine ⟨zfx hl7,zhc hl7 (by rw [List.length_map,tl]; omega) (hN _ _ ?_)⟩
    have ft7:∀ b∈(TD.come { D' with tm:=at' } nd qa len).foot,b∈D.foot:=fun b hb=>by
     have:=(zqb (D:={ D' with tm:=at' }) (n':={ nd with ps:=nd.ps++[qa],qu:=nd.qu++[(D'.ct,len)] }) (Pb:=fun _=>False) (zas hnd).1 (fun b hb=>.inl hb) b hb).resolve_right id
     rw [ef] at this; exact this
    have lf7:ll ∉ (TD.come { D' with tm:=at' } nd qa len).foot:=fun z=>lf (ft7 _ z)
    refine ⟨_,_,_,TD.come { D' with tm:=at' } nd qa len,rfl,O7.other lf7 hl7 (by intro _ z; cases z),nxt nd qa hnd,by rw [zac,zeb hgl,List.map_append]; rfl,lf7,by rw [<- pp,<- q1]; rfl,fun b o e=>?_⟩
    obtain ⟨b5,bf⟩:=fr5 b o e
    refine ⟨?_,fun z=>bf (ft7 _ z)⟩
    rw [zai (zan e llH)]
    exact d7 _ _ (by rw [ef]; exact bf) (d6 _ _ bf b5)
  ·rintro σ H5 ⟨v6,v7,v8,D,rfl,O,RSe,hl,lf,pp,fr5⟩
   refine hR _ _ ?_
   clear hR
   have el:(ps.map V.ref).length=(LL m fx).length+2:=by
    rw [List.length_map,pl,ziq]
    simp only [List.cons_append,List.length_cons,List.length_append,List.length_map,List.length_nil]
   rw [el] at RSe hl
   rw [List.take_of_length_le (by unfold lensL; rw [List.length_map,ziq]; simp)] at hl
   walk_at "rd"
   intro t ft
   have s6:=zap (o:=.tup [.ref x,.ref ll]) ft
   exact k t ll D _ (by rw [pp]; exact zac) (O.same s6) RSe (s6 _ _ hl) lf fun b o e=>⟨s6 _ _ (fr5 b o e).1,(fr5 b o e).2⟩
theorem pickS {K:PySem.W.Frag} {H:Hp} {p:Addr} {i:Int} {Q:VK} (xs:List V) (f:H p=none) (h0:0<=i) (h1:i<xs.length) (k:∀ v∈xs,∀ H',Same H H'->Q v H'):rIxL K (.ref p) (.int i) (upd H p (.lst xs)) Q:=pickV xs h0 h1 fun v hv=>k v hv _ (zap f)
theorem MF.p2 {lo hi m nh:Int} {L:List D2} {D:TD} (M:Mid lo hi m L nh D\/Fin lo hi L nh D):∃ ql qh tl th ck,P2 lo hi D ql qh tl th ck:=by
 rcases M with ⟨ql,qh,tl,th,ck,_,_,h,_⟩ | ⟨h,_⟩
 ·exact ⟨ql,qh,tl,th,ck,h⟩
 ·exact h
def zxw (C:Cl):Sp:=fun vs H Q _=>∃ (lo hi m nh:Int) (L:List D2) (D:TD) (cl:Addr) (ns:List Int),vs = [.ref D.p,.ref cl,.int m]/\TrOk C H D/\Fits lo hi m L/\L.length<=2/\(Mid lo hi m L nh D\/Fin lo hi L nh D)/\Bd D/\D.tm = 1/\D.ct<=4/\D.most=m/\H cl=some (.lst (ns.map V.int))/\ns.length<=5/\cl ∉ D.foot /\
 ∀ D' H',TrOk C H' D'->Fin lo hi L nh D'->D'.p=D.p->(∀ b o,H b=some o->b ∉ D.foot->H' b=some o/\b ∉ D'.foot)->Q .non H'
theorem zot (T:Txt K mg c_NoName c_Taken c_NoClass c_NoPlace c_NoShare c_NoLength c_TooEarly c_NoneReady c_Members c_Chooser c_Starts c_Rounds c_Node c_Tree):Def P w K mg base (CXX P w) 10 "_law_rest" ["_law_tree_here", "_law_cells", "_law_most"] (zxw (⟨c_Node,c_Starts,c_Rounds,c_Members,c_Node,c_Tree⟩:Cl)):=by
 have M_Tree_until:=zix (P:=P) (w:=w) (base:=base) T
 have M_Tree_come:=zkl (P:=P) (w:=w) (base:=base) T
 have M_Tree_now:=zqs (P:=P) (w:=w) (base:=base) T
 refine T.src__law_rest.okN (k:=9) sc__law_rest (fun vs H Q E h=>?_) (fun f cdv A outer s H vs Q E hr h=>?_)
 ·obtain ⟨lo,hi,m,nh,L,D,cl,ns,rfl,_⟩:=h
  rfl
 ·obtain ⟨lo,hi,m,nh,L,D0,cl,ns,rfl,O0,F,l2,M0,B0,tm0,ct0,ms0,hcl,nl,clf,k⟩:=h
  refine ⟨_,(zad (zis PassesOwn.never rfl (zcr K rfl (pv 1)) (zbm (i:=3) sc__law_rest.nd rfl (by first|left;rfl|right;rfl)) (zad (zay (zar (dvs:=[]) M_Tree_until (by simp) T.cl_Tree (hr.mono (by decide)) passN (pv 0) (zaa (pe_op zfd (zci (dvs:=[]) M_Tree_now (by simp) T.cl_Tree (hr.mono (by decide)) passN (pv 0)) (pe_ix (zfe K rfl) (zgl (zaa zam (zaa zam (zaa (pv 2) zaf)))) (pe_op zit (pv 3) zam) (fun _ _=>rfl))) zaf))) (zah (zay (zar (dvs:=[]) M_Tree_come (by simp) T.cl_Tree (hr.mono (by decide)) passN (pv 0) (zaa zbz (zaa (pe_op zfd zam (pe_op zit (pe_op zpb (pv 3) zam) (pv 2))) zaf))))))) (zah (zay (zar (dvs:=[]) M_Tree_until (by simp) T.cl_Tree (hr.mono (by decide)) passN (pv 0) (zaa (pe_op zfd (zci (dvs:=[]) M_Tree_now (by simp) T.cl_Tree (hr.mono (by decide)) passN (pv 0)) (pe_op zct zam (pv 2))) zaf))))),?_⟩
  show tSeq _ _ _ [some (.ref D0.p),some (.ref cl),some (.int m),none] H
  refine zae fun R hR=>?_
  refine zfg fun Z hZ=>?_
  walk_at "rd"
  refine ⟨⟨_,.of hcl⟩,hZ _ _ ?_⟩
  clear hZ
  refine zfc (K:=K) (a:=cl) (xs:=ns.map V.int) (fun i σ H'=>∃ v3 D,σ = [some (.ref D0.p),some (.ref cl),some (.int m),v3]/\TrOk (⟨c_Node,c_Starts,c_Rounds,c_Members,c_Node,c_Tree⟩:Cl) H' D/\(Mid lo hi m L nh D\/Fin lo hi L nh D)/\Bd D/\D.tm<=1+i*m/\1<=D.tm/\D.ct<=4+i/\D.most=m/\D.p=D0.p/\∀ b o,H b=some o->b ∉ D0.foot->H' b=some o/\b ∉ D.foot) ⟨none,D0,rfl,O0,M0,B0,by omega,by omega,by omega,ms0,rfl,fun b o e n=>⟨e,n⟩⟩ (fun i σ H' _ ⟨_,_,_,_,_,_,_,_,_,_,_,h⟩=>.of (h _ _ hcl clf).1) ?_ ?_
  ·rintro i w0 σ H1 hv ⟨v3,D,rfl,O,M,B,tm,tm1,ct,ms,pp,fr⟩
   obtain ⟨y,rfl⟩:∃ y,w0=V.int y:=by
    rw [List.getElem?_map] at hv
    cases e:ns[i]? with
    | none=>rw [e] at hv; cases hv
    | some z=>rw [e] at hv; cases hv; exact ⟨z,rfl⟩
   have hi5:i<5:=by
    have:=(List.getElem?_eq_some_iff.mp hv).1
    rw [List.length_map] at this
    omega
   show tSeq _ _ _ [some (.ref D0.p),some (.ref cl),some (.int m),some (.int y)] H1
   refine zfl fun N hN=>?_
   obtain ⟨ql,qh,tl,th,ck,P1⟩:=MF.p2 M
   have m1:=(P1.dy 0).W.m1
   have fb:=B.f0
   have im:(i:Int)*m<=5*m:=Int.mul_le_mul_of_nonneg_right (by omega) (by omega)
   obtain ⟨dx,fs,hp,ft⟩:=O.ex
   rw [pp] at hp
   refine zae fun R hR=>?_
   walk_at "rd"
   refine zav hp (miz ft _) (zav hp (miz ft _) ⟨D,by rw [pp],O,fun p2 f2=>?_⟩)
   refine pickS _ f2 (Int.emod_nonneg _ (by decide)) (Int.emod_lt_of_pos _ (by decide)) fun sv hsv H2 s2=>?_
   obtain ⟨gap,rfl,gb⟩:∃ gap:Int,sv = .int gap/\0<=gap/\gap<=m:=by
    simp only [List.mem_cons,List.not_mem_nil,or_false] at hsv
    rcases hsv with q | q | q
    ·exact ⟨_,q,by omega⟩
    ·exact ⟨_,q,by omega⟩
    ·exact ⟨_,q,by omega⟩
   have i1:((i+1:Nat):Int)*m=(i:Int)*m+m:=by rw [Int.natCast_add,Int.add_mul]; simp
   have im1:((i+1:Nat):Int)*m<=5*m:=Int.mul_le_mul_of_nonneg_right (by omega) (by omega)
   refine ⟨_,rfl,_,rfl,D,D.tm+gap,6,by rw [pp],O.same s2,P1.dy _,⟨by omega,by omega,by omega,by omega⟩,P1.nb,fun z=>absurd z (by omega),fun _ D' H3 rn ef O3 d3=>hR _ _ ?_⟩
   clear hR hp ft hsv f2
   obtain ⟨M3,B3,e1,e2,e3,e4⟩:=zvr F M B (by omega) rn
   have M4:Mid lo hi m L nh { D' with tm:=D.tm+gap }\/Fin lo hi L nh { D' with tm:=D.tm+gap }:=M3.imp (fun z=>z.time (by omega)) fun z=>z.time
   have ef:({ D' with tm:=D.tm+gap }:TD).foot=D.foot:=ef
   have fr3:∀ b o,H b=some o->b ∉ D0.foot->H3 b=some o/\b ∉ ({ D' with tm:=D.tm+gap }:TD).foot:=fun b o e n=>by
    obtain ⟨b1,bf⟩:=fr b o e n
    exact ⟨d3 _ _ bf (s2 _ _ b1),by rw [ef]; exact bf⟩
   have ct3:({ D' with tm:=D.tm+gap }:TD).ct=D.ct:=e3
   have ms3:({ D' with tm:=D.tm+gap }:TD).most=m:=e4.trans ms
   have p3:({ D' with tm:=D.tm+gap }:TD).p=D0.p:=e2.trans pp
   have tm3:({ D' with tm:=D.tm+gap }:TD).tm=D.tm+gap:=rfl
   generalize ({ D' with tm:=D.tm+gap }:TD)=D3 at O3 M4 B3 fr3 ct3 ms3 p3 tm3
   clear M3 d3 s2 fr M O B P1 ef rn e1 e2 e3 e4
   obtain ⟨ql',qh',tl',th',ck',P3⟩:=MF.p2 M4
   obtain ⟨nd,hnd,hcd⟩:=P3.leaf false
   have hnd:fndN D3.ns lowS=some nd:=hnd
   have y0:=Int.emod_nonneg (y / 3) (show m≠0 by omega)
   have y1:=Int.emod_lt_of_pos (y / 3) (show 0<m by omega)
   obtain ⟨dx,fs,hp,ft⟩:=O3.ex
   rw [p3] at hp
   have bc:=B3.ct
   walk_at "rd"
   refine zav hp (miz ft _) ?_
   walk_at "rd"
   refine ⟨by omega,D3,lowS,1+y / 3 % m,by rw [p3]; rfl,O3,(P3.dy 0).W,P3.psl O3,fun z=>absurd (z.resolve_left (zqc false)) (by rw [hnd]; simp),fun _ m' hm z=>(by rw [hnd] at hm; cases hm; exact absurd hcd z),fun _ m' hm _=>⟨fun z=>absurd (show 1<=1+y / 3 % m/\1+y / 3 % m<=D3.most by omega) z,fun _=>⟨fun z=>?_,fun _ qa H4 fqa O4 d4=>?_⟩⟩⟩
   ·rw [P3.rm m' (zas hm).1] at z; cases z
   ·rw [hnd] at hm
    cases hm
    have lb:1<=1+y / 3 % m/\1+y / 3 % m<=D3.most:=by omega
    have ft4:∀ b∈(TD.come D3 nd qa (1+y / 3 % m)).foot,b∈D3.foot:=fun b hb=>(zqb (D:=D3) (n':={ nd with ps:=nd.ps++[qa],qu:=nd.qu++[(D3.ct,1+y / 3 % m)] }) (Pb:=fun _=>False) (zas hnd).1 (fun b hb=>.inl hb) b hb).resolve_right id
    exact hN _ _ ⟨_,TD.come D3 nd qa (1+y / 3 % m),rfl,O4,M4.imp (fun z=>z.come hnd lb (by omega)) fun z=>z.come hnd lb (by omega),B3.come (P3.dy 0) hnd,by show D3.tm<=_; omega,by show 1<=D3.tm; omega,by show D3.ct+1<=_; omega,ms3,p3,fun b o e n=>⟨d4 _ _ (fr3 b o e n).2 (fr3 b o e n).1,fun z=>(fr3 b o e n).2 (ft4 b z)⟩⟩
  ·rintro σ H1 ⟨v3,D,rfl,O,M,B,tm,tm1,ct,ms,pp,fr⟩
   refine hR _ _ ?_
   clear hR
   rw [List.length_map] at tm ct
   obtain ⟨ql,qh,tl,th,ck,P1⟩:=MF.p2 M
   have m1:=(P1.dy 0).W.m1
   have fb:=B.f0
   have im:(ns.length:Int)*m<=5*m:=Int.mul_le_mul_of_nonneg_right (by omega) (by omega)
   obtain ⟨dx,fs,hp,ft⟩:=O.ex
   rw [pp] at hp
   walk_at "rd"
   refine zav hp (miz ft _) (zav hp (miz ft _) ⟨D,by rw [pp],O,?_⟩)
   walk_at "rd"
   refine ⟨⟨Sw.Sz.lit (by decide),(show Sw.Sz 70 m from Sw.Sz.r18 (by omega) (by omega)).mono (by decide)⟩,?_⟩
   refine ⟨D,D.tm+20*m,6,by rw [pp],O,P1.dy _,⟨by omega,by omega,by omega,by omega⟩,P1.nb,fun z=>absurd z (by omega),fun _ D' H3 rn ef O3 d3=>?_⟩
   obtain ⟨M3,B3,e1,e2,e3,e4⟩:=zvr F M B (by omega) rn
   have Fn:Fin lo hi L nh D':=by
    rcases M3 with z | z
    ·exact (z.done l2 rn.rest (by omega)).elim
    ·exact z
   have ef:({ D' with tm:=D.tm+20*m }:TD).foot=D.foot:=ef
   exact k { D' with tm:=D.tm+20*m } H3 O3 Fn.time (e2.trans pp) fun b o e n=>by
    obtain ⟨b1,bf⟩:=fr b o e n
    exact ⟨d3 _ _ bf b1,by rw [ef]; exact bf⟩
theorem ztk {α β:Type} {R:α->β->Prop}:∀ {l:List α} {k:List β},Paired R l k->∀ {i:Nat} {a:α},l[i]? = some a->∃ b,k[i]? = some b/\R a b
 | _,_,.nil,i,a,h=>by simp at h
 | _,_,.cons h t,0,a,e=>by
  cases e
  exact ⟨_,rfl,h⟩
 | _,_,.cons h t,i+1,a,e=>ztk t (i:=i) (by simpa using e)
theorem zzu {m x:Int} (x0:0<=x):((LL m x).map (·.2)).sum=x+m:=by
 unfold LL
 split
 ·show x+(m+0)=x+m
  omega
 ·show m+0=x+m
  omega
theorem RS.last {lo hi m:Int} {L:List D2} {D:TD} (R:RS lo hi m L (L.length+2) D):D.tm = 1:=by
 rcases R.st with ⟨z,_⟩ | ⟨z,_⟩ | ⟨_,_,_,_,e,_⟩
 ·omega
 ·omega
 ·exact e
theorem gs_at {gs:List D3} {z:List (Int×Str)} (h:nmz gs=z) {i:Nat} {n:Int} {x:Str} (hi:z[i]? = some (n,x)):∃ s,gs[i]? = some (s,n,x):=by
 rw [<- h] at hi
 unfold nmz at hi
 rw [List.getElem?_map] at hi
 cases e:gs[i]? with
 | none=>rw [e] at hi; cases hi
 | some d =>
  rw [e] at hi
  obtain ⟨a,b,c⟩:=d
  have hi:(b,c)=(n,x):=Option.some.inj hi
  cases hi
  exact ⟨a,rfl⟩
theorem ztl {α β:Type} {R:α->β->Prop}:∀ {l:List α} {k:List β},Paired R l k->∀ {i:Nat} {b:β},k[i]? = some b->∃ a,l[i]? = some a/\R a b
 | _,_,.nil,i,b,h=>by simp at h
 | _,_,.cons h t,0,b,e=>by
  cases e
  exact ⟨_,rfl,h⟩
 | _,_,.cons h t,i+1,b,e=>ztl t (i:=i) (by simpa using e)
theorem zzv {f:Addr} {fd:FuncData} (F:Fun K "law" "law" s_law f fd) (T:Txt K mg c_NoName c_Taken c_NoClass c_NoPlace c_NoShare c_NoLength c_TooEarly c_NoneReady c_Members c_Chooser c_Starts c_Rounds c_Node c_Tree):FnOk P w K mg base CX0 11 f fd ["_law_script"] (spLaw K):=by
 have D__law_cell_at:=zla (P:=P) (w:=w) (base:=base) T
 have D__law_number:=zmj (P:=P) (w:=w) (base:=base) T
 have D_pair_run:=zqt (P:=P) (w:=w) (base:=base) T
 have D__law_tree:=zos (P:=P) (w:=w) (base:=base) T
 have D__law_law:=zqu (P:=P) (w:=w) (base:=base) T
 have D__law_rest:=zot (P:=P) (w:=w) (base:=base) T
 have M_Tree_goings:=zmg (P:=P) (w:=w) (base:=base) T
 refine F.ok sc_law (fun vs H Q E h=>?_) (fun cdv A outer s H vs Q E hr h=>?_)
 ·obtain ⟨a,ns,rfl,_⟩:=h
  rfl
 ·obtain ⟨sc,ns,rfl,hS,hlen,k⟩:=h
  refine ⟨_,(zad (zbc (i:=1) sc_law.nd rfl (by first|left;rfl|right;rfl) (zax D__law_number (hr.mono (by decide)) rfl passN (zaa (zax D__law_cell_at (hr.mono (by decide)) rfl passN (zaa (pv 0) (zaa zam zaf))) zaf))) (zad (zbc (i:=2) sc_law.nd rfl (by first|left;rfl|right;rfl) (zax D__law_number (hr.mono (by decide)) rfl passN (zaa (zax D__law_cell_at (hr.mono (by decide)) rfl passN (zaa (pv 0) (zaa zam zaf))) zaf))) (zad (zbc (i:=3) sc_law.nd rfl (by first|left;rfl|right;rfl) (zax D__law_number (hr.mono (by decide)) rfl passN (zaa (zax D__law_cell_at (hr.mono (by decide)) rfl passN (zaa (pv 0) (zaa zam zaf))) zaf))) (zad (zbc (i:=4) sc_law.nd rfl (by first|left;rfl|right;rfl) (pe_op zit (zax D__law_cell_at (hr.mono (by decide)) rfl passN (zaa (pv 0) (zaa zam zaf))) zam)) (zad (ps_if (zba op_eq (pv 4) zam (zbk _)) (zah (zbc (i:=2) sc_law.nd rfl (by first|left;rfl|right;rfl) (pv 1))) zbb) (zad (ps_if (zba op_eq (pv 4) zam (zbk _)) (zad (zbc (i:=1) sc_law.nd rfl (by first|left;rfl|right;rfl) (pe_op zfd zam (pe_op zit (pv 1) zam))) (zah (zbc (i:=2) sc_law.nd rfl (by first|left;rfl|right;rfl) (pe_op zct (pv 1) (pe_op zfd zam (pe_op zit (zax D__law_cell_at (hr.mono (by decide)) rfl passN (zaa (pv 0) (zaa zam zaf))) zam)))))) zbb) (zad (zbc (i:=5) sc_law.nd rfl (by first|left;rfl|right;rfl) (zax D_pair_run (hr.mono (by decide)) rfl passN (zaa (pv 1) (zaa (pv 2) (zaa (pv 3) zaf))))) (zad (zbc (i:=6) sc_law.nd rfl (by first|left;rfl|right;rfl) (zcq (zjk rfl) rfl T.no_min boot_min (zaa (pv 1) (zaa (pv 2) zaf)))) (zad (zbc (i:=7) sc_law.nd rfl (by first|left;rfl|right;rfl) (zcq (zjj rfl) rfl T.no_max boot_max (zaa (pv 1) (zaa (pv 2) zaf)))) (zad (zbc (i:=8) sc_law.nd rfl (by first|left;rfl|right;rfl) (zax D__law_tree (hr.mono (by decide)) rfl passN (zaa (pv 6) (zaa (pv 7) (zaa (pv 3) (zaa (pe_ix (zaz K rfl) (pv 5) zam (fun _ _=>rfl)) zaf)))))) (zad (ps_if (PW.pt (pw_or (zba zoy (pv 8) zdn (zbk _)) (zml (zir (zlb (zax D__law_law (hr.mono (by decide)) rfl passN (zaa (pv 5) (zaa (pv 6) (zaa (pv 7) (zaa (pv 3) zaf)))))))))) (zah (zbd pe_bl)) zbb) (zad (zyf (pv 8) (zia (n:=2) K rfl rfl (zde (zbm (i:=9) sc_law.nd rfl (by first|left;rfl|right;rfl)) (zde (zbm (i:=10) sc_law.nd rfl (by first|left;rfl|right;rfl)) zhy)))) (zad (zay (zax D__law_rest (hr.mono (by decide)) rfl passN (zaa (pv 9) (zaa (zlq (zlu K rfl) (pv 0) (zhz zam) (zhz zam)) (zaa (pv 3) zaf))))) (zad (zbc (i:=11) sc_law.nd rfl (by first|left;rfl|right;rfl) (zci (dvs:=[]) M_Tree_goings (by simp) T.cl_Tree (hr.mono (by decide)) passN (pv 9))) (zad (zbc (i:=12) sc_law.nd rfl (by first|left;rfl|right;rfl) (zcq (zgc K rfl) rfl T.no_len boot_len (zaa (pv 10) zaf))) (zad (ps_if (PW.pt (pw_or (zba op_lt (zcq (zgc K rfl) rfl T.no_len boot_len (zaa (pv 11) zaf)) (pv 12) (zbk _)) (zml (zba (zwf K rfl hr.units) (zgl (zaa (pe_ix (zaz K rfl) (pe_ix (zfe K rfl) (pv 11) zam (fun _ _=>rfl)) zam (fun _ _=>rfl)) (zaa (pe_ix (zaz K rfl) (pe_ix (zfe K rfl) (pv 11) (pe_op zmm (pv 12) zam) (fun _ _=>rfl)) zam (fun _ _=>rfl)) zaf))) (zgl (zaa zbz (zaa zbz zaf))) (zbk _))))) (zah (zbd pe_bl)) zbb) (zad (ps_if (zlb (zcq (zru K rfl rfl) rfl T.no_any boot_any (zaa (pe_lc ["_law_going"] [] rfl (by with_unfolding_all rfl) (by decide +kernel) rfl (by decide +kernel) (by exact True.intro) (by with_unfolding_all rfl) True.intro (zcr K rfl (zlq (zlu K rfl) (pv 11) (zhz zam) (zhz (pe_op zmm (pv 12) zam)))) (fun _ _ _=>(zbm (i:=0) (show (["_law_going"]:List Str).Nodup from by decide +kernel) rfl (by first|left;rfl|right;rfl))) (fun _ _ _=>zfs) (fun _ _ _=>(zgo op_ne (pe_ix (zaz K rfl) (pv 0) zam (fun _ _=>rfl)) zbz (zbk _)))) zaf))) (zah (zbd pe_bl)) zbb) (zad (zbc (i:=13) sc_law.nd rfl (by first|left;rfl|right;rfl) (zcq (zna K rfl rfl) rfl T.no_sum boot_sum (zaa (pe_lc ["_law_start", "_law_number_here", "_law_name"] [("_law_lengths", 10)] rfl (by with_unfolding_all rfl) (by decide +kernel) rfl (by decide +kernel) (by exact ⟨rfl,True.intro⟩) (by with_unfolding_all rfl) ⟨⟨rfl,rfl,rfl⟩,True.intro⟩ (zcr K rfl (zlq (zlu K rfl) (pv 11) (zhz zam) (zhz (pe_op zmm (pv 12) zam)))) (fun _ _ _=>(zia (n:=3) K rfl rfl (zde (zbm (i:=0) (show (["_law_start", "_law_number_here", "_law_name", "_law_lengths"]:List Str).Nodup from by decide +kernel) rfl (by first|left;rfl|right;rfl)) (zde (zbm (i:=1) (show (["_law_start", "_law_number_here", "_law_name", "_law_lengths"]:List Str).Nodup from by decide +kernel) rfl (by first|left;rfl|right;rfl)) (zde (zbm (i:=2) (show (["_law_start", "_law_number_here", "_law_name", "_law_lengths"]:List Str).Nodup from by decide +kernel) rfl (by first|left;rfl|right;rfl)) zhy))))) (fun _ _ _=>zfs) (fun _ _ _=>(pe_ix (zfe K rfl) (pv 3) (pv 1) (fun _ _=>rfl)))) zaf))) (zah (zbd (zgo op_eq (pe_op zct (pv 13) (pe_ix (zaz K rfl) (pe_ix (zaz K rfl) (pv 5) zam (fun _ _=>rfl)) zam (fun _ _=>rfl))) (pe_op zct (pe_ix (zaz K rfl) (pe_ix (zaz K rfl) (pv 5) zam (fun _ _=>rfl)) zam (fun _ _=>rfl)) (pv 6)) (zbk _)))))))))))))))))))))),?_⟩
  show tSeq _ _ _ [some (.ref sc),none,none,none,none,none,none,none,none,none,none,none,none,none] H
  refine zae fun R hR=>?_
  walk_at "rd"
  refine zgb hS (by omega) ⟨_,rfl,fun sh H1 s1 sh6=>hR _ _ ?_⟩
  clear hR
  have hS1:=s1.seq hS
  refine zae fun R hR=>?_
  walk_at "rd"
  refine zgb hS1 (by omega) ⟨_,rfl,fun ot H2 s2 ot6=>hR _ _ ?_⟩
  clear hR
  have hS2:=s2.seq hS1
  refine zae fun R hR=>?_
  walk_at "rd"
  refine zgb hS2 (by omega) ⟨_,rfl,fun m H3 s3 m6=>hR _ _ ?_⟩
  clear hR
  have hS3:=s3.seq hS2
  refine zae fun R hR=>?_
  walk_at "rd"
  refine zgb hS3 (by omega) ⟨_,rfl,hR _ _ ?_⟩
  clear hR
  clear hS hS1 hS2 s1 s2 s3
  generalize cellI ns 3 % 4=wy
  refine zae fun R hR=>?_
  have post:∀ ot':Int,Ok6 ot'->R [some (.ref sc),some (.int sh),some (.int ot'),some (.int m),some (.int wy),none,none,none,none,none,none,none,none,none] H3:=fun ot' ot6'=>hR _ _ (by
   clear hR
   refine zae fun R hR=>?_
   have run:∀ sh' ot'':Int,Ok6 sh'->Ok6 ot''->R [some (.ref sc),some (.int sh'),some (.int ot''),some (.int m),some (.int wy),none,none,none,none,none,none,none,none,none] H3:=fun sh' ot'' sh6' ot6''=>hR _ _ (by
    clear hR
    refine zae fun R hR=>?_
    walk_at "rd"
    refine ⟨sh',ot'',m,rfl,sh6',ot6'',m6,fun t H4 s4 TL=>hR _ _ ?_⟩
    clear hR
    have hS4:=s4.seq hS3
    refine zae fun R hR=>?_
    walk_at "rd"
    refine hR _ _ ?_
    clear hR
    refine zae fun R hR=>?_
    walk_at "rd"
    refine hR _ _ ?_
    clear hR
    have lo6:Ok6 (if ot'' < sh' then ot'' else sh'):=by split <;> assumption
    have hi6:Ok6 (if ot'' > sh' then ot'' else sh'):=by split <;> assumption
    have lh:(if ot'' < sh' then ot'' else sh')<=(if ot'' > sh' then ot'' else sh'):=by split <;> split <;> omega
    generalize (if ot'' < sh' then ot'' else sh')=lo at TL lo6 lh ⊢
    generalize (if ot'' > sh' then ot'' else sh')=hi at TL hi6 lh ⊢
    obtain ⟨rl,cc,gg,ps,a1,a2,a3,a4⟩:=TL.ex
    refine zae fun R hR=>?_
    walk_at "rd"
    refine zbl (.of a1) (v:=.ref rl) rfl ⟨lo,hi,m,rl,ps,rfl,a2,lo6,hi6,m6,lh,fun tt ll D H5 ht O5 RSe hll llf fr5=>hR _ _ ?_⟩
    clear hR
    have s5:Same H4 H5:=fun b o e=>(fr5 b o e).1
    have TL5:=TL.same s5
    refine zae fun R hR=>?_
    walk_at "rd"
    refine ⟨t,lo,hi,m,rfl,TL5,lo6,hi6,m6,lh,fun H6 s6=>⟨true,rfl,?_⟩⟩
    rw [if_neg (by decide)]
    refine hR _ _ ?_
    clear hR
    obtain ⟨x0,x1,_,_⟩:=zjg lo6 hi6 m6 lh
    have Ft:=zxu lo6 hi6 m6 lh
    obtain ⟨pc,_⟩:=zth (m:=m) (x:=m*lo / hi) (hi:=hi) lo6.1 hi6.1
    obtain ⟨zc,_⟩:=zti (hi:=hi) lo6 hi6 m6 (x:=m*lo / hi) ⟨x0,by omega⟩
    have O6:=O5.same s6
    have ht6:=s6 _ _ ht
    have hll6:=s6 _ _ hll
    have s46:=s5.trans s6
    have hS6:=s46.seq hS4
    have a1:=s46 _ _ a1
    have a3:=s46 _ _ a3
    have nf6:∀ b o,H4 b=some o->b ∉ D.foot:=fun b o e=>(fr5 b o e).2
    clear fr5 hll ht O5 TL5 TL s6 s5 hS4 hS3 a2 a4
    generalize m*lo / hi=fx at *
    obtain ⟨l2,l1,lk⟩:=LL_ok m6 x1
    refine zae fun R hR=>?_
    walk_at "rd"
    refine ⟨_,.of ht6,rfl,_,_,rfl,_,_,rfl,rfl,hR _ _ ?_⟩
    clear hR
    refine zae fun R hR=>?_
    walk_at "rd"
    refine zrx hS6 fun sl fsl=>?_
    obtain ⟨ms,em,_⟩:=zrw ns (some 4) (some 9)
    have ml:ms.length<=5:=by
     have:=zxs (ns.map V.int) 4 9
     rw [show cutV (ns.map V.int) (some ((4:Nat):Int)) (some ((9:Nat):Int))=cutV (ns.map V.int) (some 4) (some 9) from rfl,em,List.length_map] at this
     exact this
    rw [em]
    have s7:=zap (o:=.lst (ms.map V.int)) fsl
    refine ⟨lo,hi,m,((LL m fx).length:Int)+1,LL m fx,D,sl,ms,rfl,O6.same s7,Ft,l2,.inl (RSe.mid hi6 m6),RSe.bd,RSe.last,by have:=RSe.ct; omega,RSe.ms,zac,ml,O6.free fsl,fun D' H8 O8 Fn p8 fr8=>hR _ _ ?_⟩
    clear hR
    have hll8:=(fr8 _ _ (s7 _ _ hll6) llf).1
    have a1:=(fr8 _ _ (s7 _ _ a1) (O6.notup a1)).1
    have a3:=(fr8 _ _ (s7 _ _ a3) (O6.notup a3)).1
    obtain ⟨⟨ql,qh,tl,th,ck,P8⟩,more,gz⟩:=Fn
    have gb:=(P8.dy 0).bud
    obtain ⟨dx,fs,hp,ft⟩:=O8.ex
    rw [p8] at hp
    refine zae fun R hR=>?_
    walk_at "rd"
    refine zav hp (miz ft _) ⟨D',by rw [p8],O8,by omega,fun l gps H9 s9 fl hl gpr _=>hR _ _ ?_⟩
    clear hR hp ft
    have hll9:=s9 _ _ hll8
    have a1:=s9 _ _ a1
    have a3:=s9 _ _ a3
    have gpl:gps.length=D'.gs.length:=gpr.length
    have ml2:(lensL m fx).length=(LL m fx).length+2:=by
     unfold lensL
     rw [List.length_map,ziq]
     simp only [List.cons_append,List.length_cons,List.length_append,List.length_map,List.length_nil]
    have glen:D'.gs.length=(LL m fx).length+2+more.length:=by
     have:=congrArg List.length gz
     unfold nmz lws at this
     rw [List.length_map] at this
     rw [this]
     simp only [List.cons_append,List.length_cons,List.length_append,List.length_map]
     omega
    clear fr8 s7 s9 fsl O8 hll8 hll6 ht6 hS6 O6 RSe P8 fl llf nf6
    refine zae fun R hR=>?_
    walk_at "rd"
    refine zpe (.of hll9) (hR _ _ ?_)
    clear hR
    rw [List.length_map,ml2]
    refine zae fun R hR=>?_
    walk_at "rd"
    refine zpe (.of hl) ?_
    walk_at "rd"
    rw [if_neg (by rw [List.length_map]; omega),show ((((LL m fx).length+2:Nat):Int)-1)=(((LL m fx).length+1:Nat):Int) by omega]
    have zN:((0,highS) :: lws (LL m fx)++(((LL m fx).length:Int)+1,highS) :: more)[(LL m fx).length+1]? = some (((LL m fx).length:Int)+1,highS):=by
     rw [List.cons_append,List.getElem?_cons_succ,List.getElem?_append_right (by unfold lws; rw [List.length_map]; omega)]
     unfold lws
     rw [List.length_map,Nat.sub_self]; rfl
    have zL:∀ j (h:j<(LL m fx).length),((0,highS) :: lws (LL m fx)++(((LL m fx).length:Int)+1,highS) :: more)[j+1]? = some (((j:Nat):Int)+1,lowS):=fun j h=>by
     rw [List.cons_append,List.getElem?_cons_succ,List.getElem?_append_left (by unfold lws; rw [List.length_map]; exact h)]
     unfold lws
     rw [List.getElem?_map,List.getElem?_eq_getElem h]
     show some ((((LL m fx)[j]'h)).1,lowS) = _
     rw [(lk j h).1]
    obtain ⟨s0,g0⟩:=gs_at gz (i:=0) rfl
    obtain ⟨p0,hp0,ht0⟩:=ztl gpr g0
    obtain ⟨sN,gN⟩:=gs_at gz zN
    obtain ⟨pN,hpN,htN⟩:=ztl gpr gN
    refine zjp (.of hl) (zga (xs:=gps.map V.ref) (j:=0) (v:=.ref p0) (by rw [List.getElem?_map,hp0]; rfl)) (zbl (.of ht0) (v:=.str highS) rfl (zjp (.of hl) (zga (xs:=gps.map V.ref) (j:=(LL m fx).length+1) (v:=.ref pN) (by rw [List.getElem?_map,hpN]; rfl)) (zbl (.of htN) (v:=.str highS) rfl fun p10 f10 p11 f11=>?_)))
    have s11:=(zap (o:=.lst [V.str highS,V.str highS]) f10).trans (zap (o:=.lst [V.str (Str.ofString "high"),V.str (Str.ofString "high")]) f11)
    refine zwg (d:=.list [.str highS,.str highS]) (.lst (.of (zap f11 _ _ zac)) (.cons (.str _) (.cons (.str _) .nil))) (.lst (.of zac) (.cons (.str _) (.cons (.str _) .nil))) (by decide +kernel) ⟨_,rfl,?_⟩
    rw [if_neg (by decide)]
    refine hR _ _ ?_
    clear hR
    have hl:=s11 _ _ hl
    have gpr:=zdq (fun _ _ z=>s11 _ _ z) gpr
    have hll9:=s11 _ _ hll9
    have a1:=s11 _ _ a1
    have a3:=s11 _ _ a3
    refine (show (_:TS) _ [some (.ref sc),some (.int sh'),some (.int ot''),some (.int m),some (.int wy),some (.ref t),some (.int lo),some (.int hi),some (.ref tt),some (.ref D.p),some (.ref ll),some (.ref l),some (.int (((LL m fx).length+2:Nat):Int)),none] (upd (upd H9 p10 (.lst [V.str highS,V.str highS])) p11 (.lst [V.str (Str.ofString "high"),V.str (Str.ofString "high")])) from ?_)
    generalize upd (upd H9 p10 (.lst [V.str highS,V.str highS])) p11 (.lst [V.str (Str.ofString "high"),V.str (Str.ofString "high")])=H11 at hl gpr hll9 a1 a3 ⊢
    clear s11 f10 f11 ht0 htN hp0 hpN g0 gN
    have gpl:gps.length=(LL m fx).length+2+more.length:=gpl.trans glen
    have ecut:cutV (gps.map V.ref) (some 1) (some ((((LL m fx).length+2:Nat):Int)-1))=((gps.drop 1).take (LL m fx).length).map V.ref:=by
     rw [show ((((LL m fx).length+2:Nat):Int)-1)=(((LL m fx).length+1:Nat):Int) by omega]
     show cutV _ (some ((1:Nat):Int)) _ = _
     unfold cutV
     rw [HT.sIx_nat,HT.sIx_nat,List.length_map,Nat.min_eq_left (by omega),Nat.min_eq_left (by omega),Nat.add_sub_cancel,<- List.map_drop,<- List.map_take]
    have spl:((gps.drop 1).take (LL m fx).length).length=(LL m fx).length:=by rw [List.length_take,List.length_drop]; omega
    have spi:∀ {j p},((gps.drop 1).take (LL m fx).length)[j]? = some p->j<(LL m fx).length/\∃ s,H11 p=some (.tup (d3V (s,(j:Int)+1,lowS))):=fun {j p} e=>by
     have hj:=(List.getElem?_eq_some_iff.mp e).1
     rw [spl] at hj
     rw [List.getElem?_take_of_lt hj,List.getElem?_drop,Nat.add_comm] at e
     obtain ⟨g,hg,ht⟩:=ztk gpr e
     obtain ⟨s,hs⟩:=gs_at gz (zL j hj)
     rw [hg] at hs
     cases hs
     exact ⟨hj,s,ht⟩
    generalize (gps.drop 1).take (LL m fx).length=sp at ecut spl spi
    refine zae fun R hR=>?_
    walk_at "rd"
    refine zrx (.of hl) fun sl fsl=>?_
    rw [ecut]
    have s12:=zap (o:=.lst (sp.map V.ref)) fsl
    refine ⟨sl,rfl,⟨_,.of zac⟩,fun L8 hL8=>?_⟩
    have hsl:upd H11 sl (.lst (sp.map V.ref)) sl=some (.lst (sp.map V.ref)):=zac
    generalize upd H11 sl (.lst (sp.map V.ref))=H12 at s12 hL8 hsl
    refine zei (K:=K) (a:=sl) (xs:=sp.map V.ref) (fun i τ H'=>(∃ v0,τ = [v0])/\Same H12 H'/\H' L8=some (.lst ((List.replicate i false).map V.bl))) ⟨⟨none,rfl⟩,zap hL8,zac⟩ (fun i τ H' _ h=>.of (h.2.1 _ _ hsl)) ?_ ?_
    ·rintro i w0 τ H13 hv ⟨⟨v0,rfl⟩,s13,hL8'⟩
     obtain ⟨p,hp',rfl⟩:∃ p,sp[i]? = some p/\V.ref p=w0:=by
      rw [List.getElem?_map] at hv
      cases e:sp[i]? with
      | none=>rw [e] at hv; cases hv
      | some z=>rw [e] at hv; exact ⟨z,rfl,Option.some.inj hv⟩
     obtain ⟨hj,s,ht⟩:=spi hp'
     walk_at "rd"
     simp only [tYes,if_true]
     walk_at "rd"
     refine zbl (.of (s13 _ _ (s12 _ _ ht))) (v:=.str lowS) rfl ?_
     rw [decide_eq_true (show V.str lowS=V.str (Str.ofString "low") from rfl)]
     refine ⟨rfl,_,hL8',zeq (by rw [List.length_map,List.length_replicate]; omega),fun b u' e=>?_,?_⟩
     ·rw [zai (zan e hL8)]; exact s13 _ _ e
     ·rw [zac,List.replicate_succ',List.map_append]; rfl
    ·rintro τ H13 ⟨_,s13,hL8'⟩
     rw [List.length_map,spl] at hL8'
     refine ⟨L8,_,rfl,.of hL8',⟨_,rfl,?_⟩⟩
     rw [show (List.replicate (LL m fx).length false).any id=false by simp,if_neg (by decide)]
     refine hR _ _ ?_
     clear hR
     have s14:=s12.trans s13
     have hl:=s14 _ _ hl
     have hll9:=s14 _ _ hll9
     have a1:=s14 _ _ a1
     have a3:=s14 _ _ a3
     have spi:∀ {j p},sp[j]? = some p->j<(LL m fx).length/\∃ s,H13 p=some (.tup (d3V (s,(j:Int)+1,lowS))):=fun {j p} e=>by
      obtain ⟨h1,s,h2⟩:=spi e
      exact ⟨h1,s,s14 _ _ h2⟩
     clear s12 s13 s14 hL8 hL8' hsl fsl gpr
     have lj:∀ j (h:j<(LL m fx).length),(lensL m fx)[j+1]? = some ((LL m fx)[j]'h).2:=fun j h=>by
      unfold lensL
      rw [List.getElem?_map,ziq,List.cons_append,List.getElem?_cons_succ,List.getElem?_append_left (by rw [List.length_map]; exact h),List.getElem?_map,List.getElem?_eq_getElem h]; rfl
     refine zae fun R hR=>?_
     walk_at "rd"
     refine zrx (.of hl) fun sl2 fsl2=>?_
     rw [ecut]
     have s15:=zap (o:=.lst (sp.map V.ref)) fsl2
     refine ⟨sl2,rfl,⟨_,.of zac⟩,fun L9 hL9=>?_⟩
     have hsl:upd H13 sl2 (.lst (sp.map V.ref)) sl2=some (.lst (sp.map V.ref)):=zac
     generalize upd H13 sl2 (.lst (sp.map V.ref))=H15 at s15 hL9 hsl
     refine zei (K:=K) (a:=sl2) (xs:=sp.map V.ref) (fun i τ H'=>(∃ v0 v1 v2,τ = [v0,v1,v2,some (.ref ll)])/\Same H15 H'/\H' L9=some (.lst ((((LL m fx).take i).map (·.2)).map V.int))) ⟨⟨none,none,none,rfl⟩,zap hL9,zac⟩ (fun i τ H' _ h=>.of (h.2.1 _ _ hsl)) ?_ ?_
     ·rintro i w0 τ H16 hv ⟨⟨v0,v1,v2,rfl⟩,s16,hL9'⟩
      obtain ⟨p,hp',rfl⟩:∃ p,sp[i]? = some p/\V.ref p=w0:=by
       rw [List.getElem?_map] at hv
       cases e:sp[i]? with
       | none=>rw [e] at hv; cases hv
       | some z=>rw [e] at hv; exact ⟨z,rfl,Option.some.inj hv⟩
      obtain ⟨hj,s,ht⟩:=spi hp'
      refine ⟨p,_,rfl,.of (s16 _ _ (s15 _ _ ht)),rfl,?_⟩
      refine ⟨_,_,rfl,_,_,rfl,_,_,rfl,rfl,?_⟩
      simp only [tYes,if_true]
      walk_at "rd"
      refine zjp (.of (s16 _ _ (s15 _ _ hll9))) (v:=.int ((LL m fx)[i]'hj).2) (zga (xs:=(lensL m fx).map V.int) (j:=i+1) (by rw [List.getElem?_map,lj i hj]; rfl)) ?_
      refine ⟨_,hL9',zeq (by rw [List.length_map,List.length_map,List.length_take]; omega),fun b u' e=>?_,?_⟩
      ·rw [zai (zan e hL9)]; exact s16 _ _ e
      ·rw [zac,List.take_succ_eq_append_getElem hj,List.map_append,List.map_append]; rfl
     ·rintro τ H16 ⟨_,s16,hL9'⟩
      rw [List.length_map,spl,List.take_length] at hL9'
      refine ⟨L9,_,rfl,.of hL9',hR _ _ ?_⟩
      clear hR
      have a1:=s16 _ _ (s15 _ _ a1)
      have a3:=s16 _ _ (s15 _ _ a3)
      rw [zzu x0]
      generalize cmsQ lo m fx=C at a3 pc zc
      have zw:Sw.Sz 200 (fx+m):=(show Sw.Sz 70 (fx+m) from Sw.Sz.r18 (by omega) (by omega)).mono (by decide)
      have zl:Sw.Sz 200 lo:=(show Sw.Sz 70 lo from Sw.Sz.r18 (by omega) (by omega)).mono (by decide)
      walk_at "rd"
      refine zbl (.of a1) (v:=.ref cc) rfl (zbl (.of a3) (v:=.int C.den) rfl ?_)
      walk_at "rd"
      refine ⟨⟨zw.mono (by decide),zc.d.mono (by decide)⟩,zbl (.of a1) (v:=.ref cc) rfl (zbl (.of a3) (v:=.int C.num) rfl ⟨_,rfl,⟨zc.n.mono (by decide),zl.mono (by decide)⟩,?_⟩)⟩
      rw [decide_eq_true (show (fx+m)*(C.den:Int)=C.num*lo by rw [pc,Int.mul_comm])]
      exact k _)
   clear hR
   walk_at "rd"
   refine ite2 (fun c=>?_) fun _=>run _ _ sh6 ot6'
   refine zae fun R2 hR2=>?_
   walk_at "rd"
   refine hR2 _ _ ?_
   clear hR2
   have b0:=Int.emod_nonneg sh (show (1000:Int)≠0 by decide)
   have b1:=Int.emod_lt_of_pos sh (show (0:Int)<1000 by decide)
   have b2:=Int.emod_nonneg (cellI ns 1) (show (1000:Int)≠0 by decide)
   have b3:=Int.emod_lt_of_pos (cellI ns 1) (show (0:Int)<1000 by decide)
   walk_at "rd"
   have sz:∀ {y:Int},0<=y->y<=1001->Sw.Sz 5000 y:=fun {y} a b=>(show Sw.Sz 70 y from Sw.Sz.r18 (by omega) (by omega)).mono (by decide)
   refine zgb hS3 (by omega) ⟨_,rfl,⟨sz (by omega) (by omega),sz (by omega) (by omega)⟩,run _ _ ⟨by omega,by omega⟩ ⟨?_,?_⟩⟩
   ·have:1*1<=(1+sh % 1000)*(1+cellI ns 1 % 1000):=Int.mul_le_mul (by omega) (by omega) (by omega) (by omega)
    exact this
   ·have:(1+sh % 1000)*(1+cellI ns 1 % 1000)<=1000*1000:=Int.mul_le_mul (by omega) (by omega) (by omega) (by omega)
    exact this)
  clear hR
  walk_at "rd"
  exact ite2 (fun c=>post _ sh6) fun _=>post _ ot6
end
theorem all_mk {l:PySem.W.OpenLaw} {w:World} {K:PySem.W.Frag} {h:Heap} {mg:Str->Option Value} {fa f1 f2 f3 f4 f5 f6 f7 f8 f9 f10 f11 f12 f13 f14 f15 f16 f17:Addr} (X:K.In h) (G:h.Ns mainGlobals mg) (hfa:mg "law" = some (.ref fa))
    {od1 an1 od2 an2 od3 an3 od4 an4 od5 an5 od6 an6 od7 an7 od8 an8 od9 an9 qa qb qc qd qe qf qg qh qi qj qk ql qm qn qo qp:Option Addr} {sl1 sl2 sl3 sl4 sl5 sl6 sl7 sl8 sl9 qr qs qt qu qv qw qx qy:Array (Option Value)} {oc1 kV1 dc1 pm1 cd1 ct1 oc2 kV2 dc2 pm2 cd2 ct2 oc3 kV3 dc3 pm3 cd3 ct3 oc4 kV4 dc4 pm4 cd4 ct4 oc5 kV5 dc5 pm5 cd5 ct5 oc6 kV6 dc6 pm6 cd6 ct6 oc7 kV7 dc7 pm7 cd7 ct7 oc8 kV8 dc8 pm8 cd8 ct8 oc9 kV9 dc9 pm9 cd9 ct9 qz qba qbb qbc qbd qbe qbf qbg qbh qbi qbj qbk qbl qbm qbn qbo qbp qbq qbr qbs qbt qbu qbv qbw qbx qby qbz qca qcb qcc qcd qce qcf qcg qch qci qcj qck qcl qcm qcn qco qcp qcq qcr qcs qct qcu:Value}
    {qcv qcw qcx qcy qcz qda qdb:Tok}
    {qdc:Addr} {qdd:Option Addr} {qde:Nat} {qdf:Array (Option Value)} {qdg qdh:Tok}
    {qdi qdj qdk qdl qdm qdn qdo qdp:Addr}
    {qdq qdr qds qdt qdu qdv qdw qdx:ClassData}
    (qdy:PySem.W.nsIn K mainGlobals "NoName" = some (some (.ref qdi)))
    (qdz:PySem.W.hasDictIn K qdi=true)
    (qea:PySem.W.findIn K (.ref qdi) "__getattribute__" = some (some (.builtin "BaseException.__getattribute__")))
    (qeb:PySem.W.findIn K (.ref qdi) "__getattr__" = some none)
    (qec:PySem.W.findIn K (.ref qdi) "__setattr__" = some (some (.builtin "object.__setattr__")))
    (qed:PySem.W.findIn K (.ref qdi) "__class__" = some (some (.builtin "object.__class__")))
    (qee:PySem.W.mroIn K qdi (.type "BaseException")=some true)
    (qef:PySem.W.mroIn K qdi (.type "object")=some true)
    (qeg:PySem.W.keepIn K (.ref qdi)=true)
    (qeh:PySem.W.clsIn K qdi=some qdq)
    (qei:PySem.W.typeIn K (.ref qdi)=some (.type "type"))
    (qej:PySem.W.excIn K qdi bmV "ValueError.__new__" = true)
    (qek:PySem.W.nsIn K mainGlobals "Taken" = some (some (.ref qdj)))
    (qel:PySem.W.hasDictIn K qdj=true)
    (qem:PySem.W.findIn K (.ref qdj) "__getattribute__" = some (some (.builtin "BaseException.__getattribute__")))
    (qen:PySem.W.findIn K (.ref qdj) "__getattr__" = some none)
    (qeo:PySem.W.findIn K (.ref qdj) "__setattr__" = some (some (.builtin "object.__setattr__")))
    (qep:PySem.W.findIn K (.ref qdj) "__class__" = some (some (.builtin "object.__class__")))
    (qeq:PySem.W.mroIn K qdj (.type "BaseException")=some true)
    (qer:PySem.W.mroIn K qdj (.type "object")=some true)
    (qes:PySem.W.keepIn K (.ref qdj)=true)
    (qet:PySem.W.clsIn K qdj=some qdr)
    (qeu:PySem.W.typeIn K (.ref qdj)=some (.type "type"))
    (qev:PySem.W.excIn K qdj bmV "ValueError.__new__" = true)
    (qew:PySem.W.nsIn K mainGlobals "NoClass" = some (some (.ref qdk)))
    (qex:PySem.W.hasDictIn K qdk=true)
    (qey:PySem.W.findIn K (.ref qdk) "__getattribute__" = some (some (.builtin "BaseException.__getattribute__")))
    (qez:PySem.W.findIn K (.ref qdk) "__getattr__" = some none)
    (qfa:PySem.W.findIn K (.ref qdk) "__setattr__" = some (some (.builtin "object.__setattr__")))
    (qfb:PySem.W.findIn K (.ref qdk) "__class__" = some (some (.builtin "object.__class__")))
    (qfc:PySem.W.mroIn K qdk (.type "BaseException")=some true)
    (qfd:PySem.W.mroIn K qdk (.type "object")=some true)
    (qfe:PySem.W.keepIn K (.ref qdk)=true)
    (qff:PySem.W.clsIn K qdk=some qds)
    (qfg:PySem.W.typeIn K (.ref qdk)=some (.type "type"))
    (qfh:PySem.W.excIn K qdk bmV "ValueError.__new__" = true)
    (qfi:PySem.W.nsIn K mainGlobals "NoPlace" = some (some (.ref qdl)))
    (qfj:PySem.W.hasDictIn K qdl=true)
    (qfk:PySem.W.findIn K (.ref qdl) "__getattribute__" = some (some (.builtin "BaseException.__getattribute__")))
    (qfl:PySem.W.findIn K (.ref qdl) "__getattr__" = some none)
    (qfm:PySem.W.findIn K (.ref qdl) "__setattr__" = some (some (.builtin "object.__setattr__")))
    (qfn:PySem.W.findIn K (.ref qdl) "__class__" = some (some (.builtin "object.__class__")))
    (qfo:PySem.W.mroIn K qdl (.type "BaseException")=some true)
    (qfp:PySem.W.mroIn K qdl (.type "object")=some true)
    (qfq:PySem.W.keepIn K (.ref qdl)=true)
    (qfr:PySem.W.clsIn K qdl=some qdt)
    (qfs:PySem.W.typeIn K (.ref qdl)=some (.type "type"))
    (qft:PySem.W.excIn K qdl bmV "ValueError.__new__" = true)
    (qfu:PySem.W.nsIn K mainGlobals "NoShare" = some (some (.ref qdm)))
    (qfv:PySem.W.hasDictIn K qdm=true)
    (qfw:PySem.W.findIn K (.ref qdm) "__getattribute__" = some (some (.builtin "BaseException.__getattribute__")))
    (qfx:PySem.W.findIn K (.ref qdm) "__getattr__" = some none)
    (qfy:PySem.W.findIn K (.ref qdm) "__setattr__" = some (some (.builtin "object.__setattr__")))
    (qfz:PySem.W.findIn K (.ref qdm) "__class__" = some (some (.builtin "object.__class__")))
    (qga:PySem.W.mroIn K qdm (.type "BaseException")=some true)
    (qgb:PySem.W.mroIn K qdm (.type "object")=some true)
    (qgc:PySem.W.keepIn K (.ref qdm)=true)
    (qgd:PySem.W.clsIn K qdm=some qdu)
    (qge:PySem.W.typeIn K (.ref qdm)=some (.type "type"))
    (qgf:PySem.W.excIn K qdm bmV "ValueError.__new__" = true)
    (qgg:PySem.W.nsIn K mainGlobals "NoLength" = some (some (.ref qdn)))
    (qgh:PySem.W.hasDictIn K qdn=true)
    (qgi:PySem.W.findIn K (.ref qdn) "__getattribute__" = some (some (.builtin "BaseException.__getattribute__")))
    (qgj:PySem.W.findIn K (.ref qdn) "__getattr__" = some none)
    (qgk:PySem.W.findIn K (.ref qdn) "__setattr__" = some (some (.builtin "object.__setattr__")))
    (qgl:PySem.W.findIn K (.ref qdn) "__class__" = some (some (.builtin "object.__class__")))
    (qgm:PySem.W.mroIn K qdn (.type "BaseException")=some true)
    (qgn:PySem.W.mroIn K qdn (.type "object")=some true)
    (qgo:PySem.W.keepIn K (.ref qdn)=true)
    (qgp:PySem.W.clsIn K qdn=some qdv)
    (qgq:PySem.W.typeIn K (.ref qdn)=some (.type "type"))
    (qgr:PySem.W.excIn K qdn bmV "ValueError.__new__" = true)
    (qgs:PySem.W.nsIn K mainGlobals "TooEarly" = some (some (.ref qdo)))
    (qgt:PySem.W.hasDictIn K qdo=true)
    (qgu:PySem.W.findIn K (.ref qdo) "__getattribute__" = some (some (.builtin "BaseException.__getattribute__")))
    (qgv:PySem.W.findIn K (.ref qdo) "__getattr__" = some none)
    (qgw:PySem.W.findIn K (.ref qdo) "__setattr__" = some (some (.builtin "object.__setattr__")))
    (qgx:PySem.W.findIn K (.ref qdo) "__class__" = some (some (.builtin "object.__class__")))
    (qgy:PySem.W.mroIn K qdo (.type "BaseException")=some true)
    (qgz:PySem.W.mroIn K qdo (.type "object")=some true)
    (qha:PySem.W.keepIn K (.ref qdo)=true)
    (qhb:PySem.W.clsIn K qdo=some qdw)
    (qhc:PySem.W.typeIn K (.ref qdo)=some (.type "type"))
    (qhd:PySem.W.excIn K qdo bmV "ValueError.__new__" = true)
    (qhe:PySem.W.nsIn K mainGlobals "NoneReady" = some (some (.ref qdp)))
    (qhf:PySem.W.hasDictIn K qdp=true)
    (qhg:PySem.W.findIn K (.ref qdp) "__getattribute__" = some (some (.builtin "BaseException.__getattribute__")))
    (qhh:PySem.W.findIn K (.ref qdp) "__getattr__" = some none)
    (qhi:PySem.W.findIn K (.ref qdp) "__setattr__" = some (some (.builtin "object.__setattr__")))
    (qhj:PySem.W.findIn K (.ref qdp) "__class__" = some (some (.builtin "object.__class__")))
    (qhk:PySem.W.mroIn K qdp (.type "BaseException")=some true)
    (qhl:PySem.W.mroIn K qdp (.type "object")=some true)
    (qhm:PySem.W.keepIn K (.ref qdp)=true)
    (qhn:PySem.W.clsIn K qdp=some qdx)
    (qho:PySem.W.typeIn K (.ref qdp)=some (.type "type"))
    (qhp:PySem.W.excIn K qdp bmV "ValueError.__new__" = true)
    (kg:PySem.W.specialIn K (.builtin "object.__class__") "__get__" = some (some (.builtin "getset_descriptor.__get__")))
    (kt:PySem.W.takesIn K (.builtin "object.__class__")=some true)
    (a1:PySem.W.nsIn K mainGlobals "divisor" = some (some (.ref f1))) (l1:K.lookup f1=some ⟨oc1,od1,.func (PySem.W.fnOf "divisor" "divisor" (zal zfn) (zak zfn) (zab zfn) .none kV1 dc1 pm1 an1 cd1 ct1),sl1⟩) (c1:PySem.W.codeIn K cd1 "divisor" = true) (k1:PySem.W.keepIn K (.ref f1)=true)
    (a2:PySem.W.nsIn K mainGlobals "ratio" = some (some (.ref f2))) (l2:K.lookup f2=some ⟨oc2,od2,.func (PySem.W.fnOf "ratio" "ratio" (zal zif) (zak zif) (zab zif) .none kV2 dc2 pm2 an2 cd2 ct2),sl2⟩) (c2:PySem.W.codeIn K cd2 "ratio" = true) (k2:PySem.W.keepIn K (.ref f2)=true)
    (a3:PySem.W.nsIn K mainGlobals "plus" = some (some (.ref f3))) (l3:K.lookup f3=some ⟨oc3,od3,.func (PySem.W.fnOf "plus" "plus" (zal zlm) (zak zlm) (zab zlm) .none kV3 dc3 pm3 an3 cd3 ct3),sl3⟩) (c3:PySem.W.codeIn K cd3 "plus" = true) (k3:PySem.W.keepIn K (.ref f3)=true)
    (a4:PySem.W.nsIn K mainGlobals "minus" = some (some (.ref f4))) (l4:K.lookup f4=some ⟨oc4,od4,.func (PySem.W.fnOf "minus" "minus" (zal zig) (zak zig) (zab zig) .none kV4 dc4 pm4 an4 cd4 ct4),sl4⟩) (c4:PySem.W.codeIn K cd4 "minus" = true) (k4:PySem.W.keepIn K (.ref f4)=true)
    (a5:PySem.W.nsIn K mainGlobals "under" = some (some (.ref f5))) (l5:K.lookup f5=some ⟨oc5,od5,.func (PySem.W.fnOf "under" "under" (zal zih) (zak zih) (zab zih) .none kV5 dc5 pm5 an5 cd5 ct5),sl5⟩) (c5:PySem.W.codeIn K cd5 "under" = true) (k5:PySem.W.keepIn K (.ref f5)=true)
    (a6:PySem.W.nsIn K mainGlobals "greater" = some (some (.ref f6))) (l6:K.lookup f6=some ⟨oc6,od6,.func (PySem.W.fnOf "greater" "greater" (zal zfo) (zak zfo) (zab zfo) .none kV6 dc6 pm6 an6 cd6 ct6),sl6⟩) (c6:PySem.W.codeIn K cd6 "greater" = true) (k6:PySem.W.keepIn K (.ref f6)=true)
    (a7:PySem.W.nsIn K mainGlobals "check_share" = some (some (.ref f7))) (l7:K.lookup f7=some ⟨oc7,od7,.func (PySem.W.fnOf "check_share" "check_share" (zal zdw) (zak zdw) (zab zdw) .none kV7 dc7 pm7 an7 cd7 ct7),sl7⟩) (c7:PySem.W.codeIn K cd7 "check_share" = true) (k7:PySem.W.keepIn K (.ref f7)=true)
    (a8:PySem.W.nsIn K mainGlobals "check_most" = some (some (.ref f8))) (l8:K.lookup f8=some ⟨oc8,od8,.func (PySem.W.fnOf "check_most" "check_most" (zal zef) (zak zef) (zab zef) .none kV8 dc8 pm8 an8 cd8 ct8),sl8⟩) (c8:PySem.W.codeIn K cd8 "check_most" = true) (k8:PySem.W.keepIn K (.ref f8)=true)
    (a9:PySem.W.nsIn K mainGlobals "is_name" = some (some (.ref f9))) (l9:K.lookup f9=some ⟨oc9,od9,.func (PySem.W.fnOf "is_name" "is_name" (zal zfp) (zak zfp) (zab zfp) .none kV9 dc9 pm9 an9 cd9 ct9),sl9⟩) (c9:PySem.W.codeIn K cd9 "is_name" = true) (k9:PySem.W.keepIn K (.ref f9)=true)
    (a10:PySem.W.nsIn K mainGlobals "chooser_of" = some (some (.ref f10))) (l10:K.lookup f10=some ⟨qz,qa,.func (PySem.W.fnOf "chooser_of" "chooser_of" (zal zeg) (zak zeg) (zab zeg) .none qba qbb qbc qb qbd qbe),qr⟩) (c10:PySem.W.codeIn K qbd "chooser_of" = true) (k10:PySem.W.keepIn K (.ref f10)=true)
    (a11:PySem.W.nsIn K mainGlobals "pair_run" = some (some (.ref f11))) (l11:K.lookup f11=some ⟨qbf,qc,.func (PySem.W.fnOf "pair_run" "pair_run" (zal zeu) (zak zeu) (zab zeu) .none qbg qbh qbi qd qbj qbk),qs⟩) (c11:PySem.W.codeIn K qbj "pair_run" = true) (k11:PySem.W.keepIn K (.ref f11)=true)
    (a12:PySem.W.nsIn K mainGlobals "_law_cell_at" = some (some (.ref f12))) (l12:K.lookup f12=some ⟨qbl,qe,.func (PySem.W.fnOf "_law_cell_at" "_law_cell_at" (zal zdm) (zak zdm) (zab zdm) .none qbm qbn qbo qf qbp qbq),qt⟩) (c12:PySem.W.codeIn K qbp "_law_cell_at" = true) (k12:PySem.W.keepIn K (.ref f12)=true)
    (a13:PySem.W.nsIn K mainGlobals "_law_number" = some (some (.ref f13))) (l13:K.lookup f13=some ⟨qbr,qg,.func (PySem.W.fnOf "_law_number" "_law_number" (zal zdx) (zak zdx) (zab zdx) .none qbs qbt qbu qh qbv qbw),qu⟩) (c13:PySem.W.codeIn K qbv "_law_number" = true) (k13:PySem.W.keepIn K (.ref f13)=true)
    (a14:PySem.W.nsIn K mainGlobals "_law_tree" = some (some (.ref f14))) (l14:K.lookup f14=some ⟨qbx,qi,.func (PySem.W.fnOf "_law_tree" "_law_tree" (zal zen) (zak zen) (zab zen) .none qby qbz qca qj qcb qcc),qv⟩) (c14:PySem.W.codeIn K qcb "_law_tree" = true) (k14:PySem.W.keepIn K (.ref f14)=true)
    (a15:PySem.W.nsIn K mainGlobals "_law_rest" = some (some (.ref f15))) (l15:K.lookup f15=some ⟨qcd,qk,.func (PySem.W.fnOf "_law_rest" "_law_rest" (zal zeo) (zak zeo) (zab zeo) .none qce qcf qcg ql qch qci),qw⟩) (c15:PySem.W.codeIn K qch "_law_rest" = true) (k15:PySem.W.keepIn K (.ref f15)=true)
    (a16:PySem.W.nsIn K mainGlobals "_law_law" = some (some (.ref f16))) (l16:K.lookup f16=some ⟨qcj,qm,.func (PySem.W.fnOf "_law_law" "_law_law" (zal zev) (zak zev) (zab zev) .none qck qcl qcm qn qcn qco),qx⟩) (c16:PySem.W.codeIn K qcn "_law_law" = true) (k16:PySem.W.keepIn K (.ref f16)=true)
    (a17:PySem.W.nsIn K mainGlobals "law" = some (some (.ref f17))) (l17:K.lookup f17=some ⟨qcp,qo,.func (PySem.W.fnOf "law" "law" (zal s_law) (zak s_law) (zab s_law) .none qcq qcr qcs qp qct qcu),qy⟩) (c17:PySem.W.codeIn K qct "law" = true) (k17:PySem.W.keepIn K (.ref f17)=true)
    (z1:PySem.W.nsIn K mainGlobals "abs" = some none)
    (z2:PySem.W.nsIn K mainGlobals "all" = some none)
    (z3:PySem.W.nsIn K mainGlobals "len" = some none)
    (z4:PySem.W.nsIn K mainGlobals "max" = some none)
    (z5:PySem.W.nsIn K mainGlobals "min" = some none)
    (z6:PySem.W.nsIn K mainGlobals "sum" = some none)
    (z7:PySem.W.nsIn K mainGlobals "any" = some none)
    (z8:PySem.W.nsIn K mainGlobals "list" = some none)
    (qhq:PySem.W.nsIn K mainGlobals "GREATEST_SHARE" = some (some (.int 1000000 qcv)))
    (qhr:PySem.W.nsIn K mainGlobals "GREATEST_LENGTH" = some (some (.int 1000000 qcw)))
    (qhs:PySem.W.nsIn K mainGlobals "LETTERS" = some (some (.str (Str.ofString "abcdefghijklmnopqrstuvwxyz") qcx)))
    (qht:PySem.W.nsIn K mainGlobals "LONGEST_NAME" = some (some (.int 8 qcy)))
    (qhu:PySem.W.nsIn K mainGlobals "ROAD" = some (some (.str (Str.ofString "road") qcz)))
    (qhv:PySem.W.nsIn K mainGlobals "INNER_KINDS" = some (some (.ref qdc)))
    (qhw:K.lookup qdc=some ⟨.type "tuple", qdd,.seq #[.str (Str.ofString "starts") qdg,.str (Str.ofString "rounds") qdh] qde,qdf⟩)
    (qhx:PySem.W.nsIn K mainGlobals "LONGEST_WAY" = some (some (.int 5 qda)))
    (qhy:PySem.W.nsIn K mainGlobals "LEAF" = some (some (.str (Str.ofString "leaf") qdb)))
    {qhz:Addr}
    (qia:PySem.W.nsIn K mainGlobals "Members" = some (some (.ref qhz)))
    (qib:PySem.W.plainGet K qhz Str.empty=true)
    (qic:PySem.W.hasDictIn K qhz=true)
    (qid:PySem.W.plainOver K qhz=true)
    (qie:PySem.W.findIn K (.ref qhz) "__setattr__" = some (some (.builtin "object.__setattr__")))
    (qif:PySem.W.makesIn K qhz=true)
    (qig:PySem.W.keepIn K (.ref qhz)=true)
    (qih:PySem.W.findIn K (.ref qhz) "shares" = some none)
    {qii:Addr} {qij qik:Option Addr} {qil:Array (Option Value)} {qim qin qio qip qiq qir:Value}
    (qis:PySem.W.findIn K (.ref qhz) "__init__" = some (some (.ref qii)))
    (qit:PySem.W.isFn K (.ref qii)=true)
    (qiu:K.lookup qii=some ⟨qim,qij,.func (PySem.W.fnOf "__init__" "Members.__init__" (zal zcw) (zak zcw) (zab zcw) .none qin qio qip qik qiq qir),qil⟩)
    (qiv:PySem.W.codeIn K qiq "Members.__init__" = true)
    (qiw:PySem.W.keepIn K (.ref qii)=true)
    {qix:Addr} {qiy qiz:Option Addr} {qja:Array (Option Value)} {qjb qjc qjd qje qjf qjg:Value}
    (qjh:PySem.W.findIn K (.ref qhz) "check_name" = some (some (.ref qix)))
    (qji:PySem.W.isFn K (.ref qix)=true)
    (qjj:K.lookup qix=some ⟨qjb,qiy,.func (PySem.W.fnOf "check_name" "Members.check_name" (zal zbe) (zak zbe) (zab zbe) .none qjc qjd qje qiz qjf qjg),qja⟩)
    (qjk:PySem.W.codeIn K qjf "Members.check_name" = true)
    (qjl:PySem.W.keepIn K (.ref qix)=true)
    {qjm:Addr} {qjn qjo:Option Addr} {qjp:Array (Option Value)} {qjq qjr qjs qjt qju qjv:Value}
    (qjw:PySem.W.findIn K (.ref qhz) "put" = some (some (.ref qjm)))
    (qjx:PySem.W.isFn K (.ref qjm)=true)
    (qjy:K.lookup qjm=some ⟨qjq,qjn,.func (PySem.W.fnOf "put" "Members.put" (zal zdf) (zak zdf) (zab zdf) .none qjr qjs qjt qjo qju qjv),qjp⟩)
    (qjz:PySem.W.codeIn K qju "Members.put" = true)
    (qka:PySem.W.keepIn K (.ref qjm)=true)
    {qkb:Addr} {qkc qkd:Option Addr} {qke:Array (Option Value)} {qkf qkg qkh qki qkj qkk:Value}
    (qkl:PySem.W.findIn K (.ref qhz) "names" = some (some (.ref qkb)))
    (qkm:PySem.W.isFn K (.ref qkb)=true)
    (qkn:K.lookup qkb=some ⟨qkf,qkc,.func (PySem.W.fnOf "names" "Members.names" (zal zcj) (zak zcj) (zab zcj) .none qkg qkh qki qkd qkj qkk),qke⟩)
    (qko:PySem.W.codeIn K qkj "Members.names" = true)
    (qkp:PySem.W.keepIn K (.ref qkb)=true)
    {qkq:Addr} {qkr qks:Option Addr} {qkt:Array (Option Value)} {qku qkv qkw qkx qky qkz:Value}
    (qla:PySem.W.findIn K (.ref qhz) "share_of" = some (some (.ref qkq)))
    (qlb:PySem.W.isFn K (.ref qkq)=true)
    (qlc:K.lookup qkq=some ⟨qku,qkr,.func (PySem.W.fnOf "share_of" "Members.share_of" (zal zbn) (zak zbn) (zab zbn) .none qkv qkw qkx qks qky qkz),qkt⟩)
    (qld:PySem.W.codeIn K qky "Members.share_of" = true)
    (qle:PySem.W.keepIn K (.ref qkq)=true)
    {qlf:Addr}
    (qlg:PySem.W.nsIn K mainGlobals "Chooser" = some (some (.ref qlf)))
    {qlh:Addr}
    (qli:PySem.W.nsIn K mainGlobals "Starts" = some (some (.ref qlh)))
    (qlj:PySem.W.plainGet K qlh Str.empty=true)
    (qlk:PySem.W.hasDictIn K qlh=true)
    (qll:PySem.W.plainOver K qlh=true)
    (qlm:PySem.W.findIn K (.ref qlh) "__setattr__" = some (some (.builtin "object.__setattr__")))
    (qln:PySem.W.makesIn K qlh=true)
    (qlo:PySem.W.keepIn K (.ref qlh)=true)
    (qlp:PySem.W.findIn K (.ref qlh) "reached" = some none)
    (qlq:PySem.W.findIn K (.ref qlh) "tags" = some none)
    (qlr:PySem.W.findIn K (.ref qlh) "greatest_steps" = some none)
    (qls:PySem.W.findIn K (.ref qlh) "most" = some none)
    (qlt:PySem.W.findIn K (.ref qlh) "members" = some none)
    (qlu:PySem.W.findIn K (.ref qlh) "chosen" = some none)
    {qlv:Addr} {qlw qlx:Option Addr} {qly:Array (Option Value)} {qlz qma qmb qmc qmd qme:Value}
    (qmf:PySem.W.findIn K (.ref qlh) "__init__" = some (some (.ref qlv)))
    (qmg:PySem.W.isFn K (.ref qlv)=true)
    (qmh:K.lookup qlv=some ⟨qlz,qlw,.func (PySem.W.fnOf "__init__" "Starts.__init__" (zal zdg) (zak zdg) (zab zdg) .none qma qmb qmc qlx qmd qme),qly⟩)
    (qmi:PySem.W.codeIn K qmd "Starts.__init__" = true)
    (qmj:PySem.W.keepIn K (.ref qlv)=true)
    {qmk:Addr} {qml qmm:Option Addr} {qmn:Array (Option Value)} {qmo qmp qmq qmr qms qmt:Value}
    (qmu:PySem.W.findIn K (.ref qlh) "enter" = some (some (.ref qmk)))
    (qmv:PySem.W.isFn K (.ref qmk)=true)
    (qmw:K.lookup qmk=some ⟨qmo,qml,.func (PySem.W.fnOf "enter" "Starts.enter" (zal zcx) (zak zcx) (zab zcx) .none qmp qmq qmr qmm qms qmt),qmn⟩)
    (qmx:PySem.W.codeIn K qms "Starts.enter" = true)
    (qmy:PySem.W.keepIn K (.ref qmk)=true)
    {qmz:Addr} {qna qnb:Option Addr} {qnc:Array (Option Value)} {qnd qne qnf qng qnh qni:Value}
    (qnj:PySem.W.findIn K (.ref qlh) "pick" = some (some (.ref qmz)))
    (qnk:PySem.W.isFn K (.ref qmz)=true)
    (qnl:K.lookup qmz=some ⟨qnd,qna,.func (PySem.W.fnOf "pick" "Starts.pick" (zal zdh) (zak zdh) (zab zdh) .none qne qnf qng qnb qnh qni),qnc⟩)
    (qnm:PySem.W.codeIn K qnh "Starts.pick" = true)
    (qnn:PySem.W.keepIn K (.ref qmz)=true)
    {qno:Addr} {qnp qnq:Option Addr} {qnr:Array (Option Value)} {qns qnt qnu qnv qnw qnx:Value}
    (qny:PySem.W.findIn K (.ref qlh) "charge" = some (some (.ref qno)))
    (qnz:PySem.W.isFn K (.ref qno)=true)
    (qoa:K.lookup qno=some ⟨qns,qnp,.func (PySem.W.fnOf "charge" "Starts.charge" (zal zck) (zak zck) (zab zck) .none qnt qnu qnv qnq qnw qnx),qnr⟩)
    (qob:PySem.W.codeIn K qnw "Starts.charge" = true)
    (qoc:PySem.W.keepIn K (.ref qno)=true)
    {qod:Addr} {qoe qof:Option Addr} {qog:Array (Option Value)} {qoh qoi qoj qok qol qom:Value}
    (qon:PySem.W.findIn K (.ref qlh) "stands" = some (some (.ref qod)))
    (qoo:PySem.W.isFn K (.ref qod)=true)
    (qop:K.lookup qod=some ⟨qoh,qoe,.func (PySem.W.fnOf "stands" "Starts.stands" (zal zcl) (zak zcl) (zab zcl) .none qoi qoj qok qof qol qom),qog⟩)
    (qoq:PySem.W.codeIn K qol "Starts.stands" = true)
    (qor:PySem.W.keepIn K (.ref qod)=true)
    {qos:Addr} {qot qou:Option Addr} {qov:Array (Option Value)} {qow qox qoy qoz qpa qpb:Value}
    (qpc:PySem.W.findIn K (.ref qlf) "__init__" = some (some (.ref qos)))
    (qpd:PySem.W.isFn K (.ref qos)=true)
    (qpe:K.lookup qos=some ⟨qow,qot,.func (PySem.W.fnOf "__init__" "Chooser.__init__" (zal zbg) (zak zbg) (zab zbg) .none qox qoy qoz qou qpa qpb),qov⟩)
    (qpf:PySem.W.codeIn K qpa "Chooser.__init__" = true)
    (qpg:PySem.W.readsIn K qlf (.type "type")=true)
    (qph:PySem.W.findCls K (.ref qlf) (.type "type") "__init__" = some (.val (.ref qos)))
    (qpi:PySem.W.specialIn K (.ref qlf) "__getattribute__" = some (some (.builtin "type.__getattribute__")))
    (qpj:PySem.W.keepIn K (.ref qos)=true)
    {qpk:Addr} {qpl qpm:Option Addr} {qpn:Array (Option Value)} {qpo qpp qpq qpr qps qpt:Value}
    (qpu:PySem.W.findIn K (.ref qlh) "put" = some (some (.ref qpk)))
    (qpv:PySem.W.isFn K (.ref qpk)=true)
    (qpw:K.lookup qpk=some ⟨qpo,qpl,.func (PySem.W.fnOf "put" "Chooser.put" (zal zdr) (zak zdr) (zab zdr) .none qpp qpq qpr qpm qps qpt),qpn⟩)
    (qpx:PySem.W.codeIn K qps "Chooser.put" = true)
    (qpy:PySem.W.keepIn K (.ref qpk)=true)
    {qpz:Addr} {qqa qqb:Option Addr} {qqc:Array (Option Value)} {qqd qqe qqf qqg qqh qqi:Value}
    (qqj:PySem.W.findIn K (.ref qlh) "names" = some (some (.ref qpz)))
    (qqk:PySem.W.isFn K (.ref qpz)=true)
    (qql:K.lookup qpz=some ⟨qqd,qqa,.func (PySem.W.fnOf "names" "Chooser.names" (zal zcy) (zak zcy) (zab zcy) .none qqe qqf qqg qqb qqh qqi),qqc⟩)
    (qqm:PySem.W.codeIn K qqh "Chooser.names" = true)
    (qqn:PySem.W.keepIn K (.ref qpz)=true)
    {qqo:Addr} {qqp qqq:Option Addr} {qqr:Array (Option Value)} {qqs qqt qqu qqv qqw qqx:Value}
    (qqy:PySem.W.findIn K (.ref qlh) "share_of" = some (some (.ref qqo)))
    (qqz:PySem.W.isFn K (.ref qqo)=true)
    (qra:K.lookup qqo=some ⟨qqs,qqp,.func (PySem.W.fnOf "share_of" "Chooser.share_of" (zal zbu) (zak zbu) (zab zbu) .none qqt qqu qqv qqq qqw qqx),qqr⟩)
    (qrb:PySem.W.codeIn K qqw "Chooser.share_of" = true)
    (qrc:PySem.W.keepIn K (.ref qqo)=true)
    {qrd:Addr} {qre qrf:Option Addr} {qrg:Array (Option Value)} {qrh qri qrj qrk qrl qrm:Value}
    (qrn:PySem.W.findIn K (.ref qlh) "choose" = some (some (.ref qrd)))
    (qro:PySem.W.isFn K (.ref qrd)=true)
    (qrp:K.lookup qrd=some ⟨qrh,qre,.func (PySem.W.fnOf "choose" "Chooser.choose" (zal zcm) (zak zcm) (zab zcm) .none qri qrj qrk qrf qrl qrm),qrg⟩)
    (qrq:PySem.W.codeIn K qrl "Chooser.choose" = true)
    (qrr:PySem.W.keepIn K (.ref qrd)=true)
    {qrs:Addr} {qrt qru:Option Addr} {qrv:Array (Option Value)} {qrw qrx qry qrz qsa qsb:Value}
    (qsc:PySem.W.findIn K (.ref qlh) "pay" = some (some (.ref qrs)))
    (qsd:PySem.W.isFn K (.ref qrs)=true)
    (qse:K.lookup qrs=some ⟨qrw,qrt,.func (PySem.W.fnOf "pay" "Chooser.pay" (zal zds) (zak zds) (zab zds) .none qrx qry qrz qru qsa qsb),qrv⟩)
    (qsf:PySem.W.codeIn K qsa "Chooser.pay" = true)
    (qsg:PySem.W.keepIn K (.ref qrs)=true)
    {qsh:Addr}
    (qsi:PySem.W.nsIn K mainGlobals "Rounds" = some (some (.ref qsh)))
    (qsj:PySem.W.plainGet K qsh Str.empty=true)
    (qsk:PySem.W.hasDictIn K qsh=true)
    (qsl:PySem.W.plainOver K qsh=true)
    (qsm:PySem.W.findIn K (.ref qsh) "__setattr__" = some (some (.builtin "object.__setattr__")))
    (qsn:PySem.W.makesIn K qsh=true)
    (qso:PySem.W.keepIn K (.ref qsh)=true)
    (qsp:PySem.W.findIn K (.ref qsh) "queue" = some none)
    (qsq:PySem.W.findIn K (.ref qsh) "rests" = some none)
    (qsr:PySem.W.findIn K (.ref qsh) "turn" = some none)
    (qss:PySem.W.findIn K (.ref qsh) "most" = some none)
    (qst:PySem.W.findIn K (.ref qsh) "members" = some none)
    (qsu:PySem.W.findIn K (.ref qsh) "chosen" = some none)
    {qsv:Addr} {qsw qsx:Option Addr} {qsy:Array (Option Value)} {qsz qta qtb qtc qtd qte:Value}
    (qtf:PySem.W.findIn K (.ref qsh) "__init__" = some (some (.ref qsv)))
    (qtg:PySem.W.isFn K (.ref qsv)=true)
    (qth:K.lookup qsv=some ⟨qsz,qsw,.func (PySem.W.fnOf "__init__" "Rounds.__init__" (zal zdi) (zak zdi) (zab zdi) .none qta qtb qtc qsx qtd qte),qsy⟩)
    (qti:PySem.W.codeIn K qtd "Rounds.__init__" = true)
    (qtj:PySem.W.keepIn K (.ref qsv)=true)
    {qtk:Addr} {qtl qtm:Option Addr} {qtn:Array (Option Value)} {qto qtp qtq qtr qts qtt:Value}
    (qtu:PySem.W.findIn K (.ref qsh) "enter" = some (some (.ref qtk)))
    (qtv:PySem.W.isFn K (.ref qtk)=true)
    (qtw:K.lookup qtk=some ⟨qto,qtl,.func (PySem.W.fnOf "enter" "Rounds.enter" (zal zcz) (zak zcz) (zab zcz) .none qtp qtq qtr qtm qts qtt),qtn⟩)
    (qtx:PySem.W.codeIn K qts "Rounds.enter" = true)
    (qty:PySem.W.keepIn K (.ref qtk)=true)
    {qtz:Addr} {qua qub:Option Addr} {quc:Array (Option Value)} {qud que quf qug quh qui:Value}
    (quj:PySem.W.findIn K (.ref qsh) "full_rest" = some (some (.ref qtz)))
    (quk:PySem.W.isFn K (.ref qtz)=true)
    (qul:K.lookup qtz=some ⟨qud,qua,.func (PySem.W.fnOf "full_rest" "Rounds.full_rest" (zal zbo) (zak zbo) (zab zbo) .none que quf qug qub quh qui),quc⟩)
    (qum:PySem.W.codeIn K quh "Rounds.full_rest" = true)
    (qun:PySem.W.keepIn K (.ref qtz)=true)
    {quo:Addr} {qup quq:Option Addr} {qur:Array (Option Value)} {qus qut quu quv quw qux:Value}
    (quy:PySem.W.findIn K (.ref qsh) "pick" = some (some (.ref quo)))
    (quz:PySem.W.isFn K (.ref quo)=true)
    (qva:K.lookup quo=some ⟨qus,qup,.func (PySem.W.fnOf "pick" "Rounds.pick" (zal zdj) (zak zdj) (zab zdj) .none qut quu quv quq quw qux),qur⟩)
    (qvb:PySem.W.codeIn K quw "Rounds.pick" = true)
    (qvc:PySem.W.keepIn K (.ref quo)=true)
    {qvd:Addr} {qve qvf:Option Addr} {qvg:Array (Option Value)} {qvh qvi qvj qvk qvl qvm:Value}
    (qvn:PySem.W.findIn K (.ref qsh) "end_turn" = some (some (.ref qvd)))
    (qvo:PySem.W.isFn K (.ref qvd)=true)
    (qvp:K.lookup qvd=some ⟨qvh,qve,.func (PySem.W.fnOf "end_turn" "Rounds.end_turn" (zal zbv) (zak zbv) (zab zbv) .none qvi qvj qvk qvf qvl qvm),qvg⟩)
    (qvq:PySem.W.codeIn K qvl "Rounds.end_turn" = true)
    (qvr:PySem.W.keepIn K (.ref qvd)=true)
    {qvs:Addr} {qvt qvu:Option Addr} {qvv:Array (Option Value)} {qvw qvx qvy qvz qwa qwb:Value}
    (qwc:PySem.W.findIn K (.ref qsh) "begin_turn" = some (some (.ref qvs)))
    (qwd:PySem.W.isFn K (.ref qvs)=true)
    (qwe:K.lookup qvs=some ⟨qvw,qvt,.func (PySem.W.fnOf "begin_turn" "Rounds.begin_turn" (zal zbh) (zak zbh) (zab zbh) .none qvx qvy qvz qvu qwa qwb),qvv⟩)
    (qwf:PySem.W.codeIn K qwa "Rounds.begin_turn" = true)
    (qwg:PySem.W.keepIn K (.ref qvs)=true)
    {qwh:Addr} {qwi qwj:Option Addr} {qwk:Array (Option Value)} {qwl qwm qwn qwo qwp qwq:Value}
    (qwr:PySem.W.findIn K (.ref qsh) "charge" = some (some (.ref qwh)))
    (qws:PySem.W.isFn K (.ref qwh)=true)
    (qwt:K.lookup qwh=some ⟨qwl,qwi,.func (PySem.W.fnOf "charge" "Rounds.charge" (zal zcn) (zak zcn) (zab zcn) .none qwm qwn qwo qwj qwp qwq),qwk⟩)
    (qwu:PySem.W.codeIn K qwp "Rounds.charge" = true)
    (qwv:PySem.W.keepIn K (.ref qwh)=true)
    {qww:Addr} {qwx qwy:Option Addr} {qwz:Array (Option Value)} {qxa qxb qxc qxd qxe qxf:Value}
    (qxg:PySem.W.findIn K (.ref qlf) "__init__" = some (some (.ref qww)))
    (qxh:PySem.W.isFn K (.ref qww)=true)
    (qxi:K.lookup qww=some ⟨qxa,qwx,.func (PySem.W.fnOf "__init__" "Chooser.__init__" (zal zbi) (zak zbi) (zab zbi) .none qxb qxc qxd qwy qxe qxf),qwz⟩)
    (qxj:PySem.W.codeIn K qxe "Chooser.__init__" = true)
    (qxk:PySem.W.readsIn K qlf (.type "type")=true)
    (qxl:PySem.W.findCls K (.ref qlf) (.type "type") "__init__" = some (.val (.ref qww)))
    (qxm:PySem.W.specialIn K (.ref qlf) "__getattribute__" = some (some (.builtin "type.__getattribute__")))
    (qxn:PySem.W.keepIn K (.ref qww)=true)
    {qxo:Addr} {qxp qxq:Option Addr} {qxr:Array (Option Value)} {qxs qxt qxu qxv qxw qxx:Value}
    (qxy:PySem.W.findIn K (.ref qsh) "put" = some (some (.ref qxo)))
    (qxz:PySem.W.isFn K (.ref qxo)=true)
    (qya:K.lookup qxo=some ⟨qxs,qxp,.func (PySem.W.fnOf "put" "Chooser.put" (zal zdt) (zak zdt) (zab zdt) .none qxt qxu qxv qxq qxw qxx),qxr⟩)
    (qyb:PySem.W.codeIn K qxw "Chooser.put" = true)
    (qyc:PySem.W.keepIn K (.ref qxo)=true)
    {qyd:Addr} {qye qyf:Option Addr} {qyg:Array (Option Value)} {qyh qyi qyj qyk qyl qym:Value}
    (qyn:PySem.W.findIn K (.ref qsh) "names" = some (some (.ref qyd)))
    (qyo:PySem.W.isFn K (.ref qyd)=true)
    (qyp:K.lookup qyd=some ⟨qyh,qye,.func (PySem.W.fnOf "names" "Chooser.names" (zal zda) (zak zda) (zab zda) .none qyi qyj qyk qyf qyl qym),qyg⟩)
    (qyq:PySem.W.codeIn K qyl "Chooser.names" = true)
    (qyr:PySem.W.keepIn K (.ref qyd)=true)
    {qys:Addr} {qyt qyu:Option Addr} {qyv:Array (Option Value)} {qyw qyx qyy qyz qza qzb:Value}
    (qzc:PySem.W.findIn K (.ref qsh) "share_of" = some (some (.ref qys)))
    (qzd:PySem.W.isFn K (.ref qys)=true)
    (qze:K.lookup qys=some ⟨qyw,qyt,.func (PySem.W.fnOf "share_of" "Chooser.share_of" (zal zbw) (zak zbw) (zab zbw) .none qyx qyy qyz qyu qza qzb),qyv⟩)
    (qzf:PySem.W.codeIn K qza "Chooser.share_of" = true)
    (qzg:PySem.W.keepIn K (.ref qys)=true)
    {qzh:Addr} {qzi qzj:Option Addr} {qzk:Array (Option Value)} {qzl qzm qzn qzo qzp qzq:Value}
    (qzr:PySem.W.findIn K (.ref qsh) "choose" = some (some (.ref qzh)))
    (qzs:PySem.W.isFn K (.ref qzh)=true)
    (qzt:K.lookup qzh=some ⟨qzl,qzi,.func (PySem.W.fnOf "choose" "Chooser.choose" (zal zco) (zak zco) (zab zco) .none qzm qzn qzo qzj qzp qzq),qzk⟩)
    (qzu:PySem.W.codeIn K qzp "Chooser.choose" = true)
    (qzv:PySem.W.keepIn K (.ref qzh)=true)
    {qzw:Addr} {qzx qzy:Option Addr} {qzz:Array (Option Value)} {qbaa qbab qbac qbad qbae qbaf:Value}
    (qbag:PySem.W.findIn K (.ref qsh) "pay" = some (some (.ref qzw)))
    (qbah:PySem.W.isFn K (.ref qzw)=true)
    (qbai:K.lookup qzw=some ⟨qbaa,qzx,.func (PySem.W.fnOf "pay" "Chooser.pay" (zal zdu) (zak zdu) (zab zdu) .none qbab qbac qbad qzy qbae qbaf),qzz⟩)
    (qbaj:PySem.W.codeIn K qbae "Chooser.pay" = true)
    (qbak:PySem.W.keepIn K (.ref qzw)=true)
    {qbal:Addr}
    (qbam:PySem.W.nsIn K mainGlobals "Node" = some (some (.ref qbal)))
    (qban:PySem.W.plainGet K qbal Str.empty=true)
    (qbao:PySem.W.hasDictIn K qbal=true)
    (qbap:PySem.W.plainOver K qbal=true)
    (qbaq:PySem.W.findIn K (.ref qbal) "__setattr__" = some (some (.builtin "object.__setattr__")))
    (qbar:PySem.W.makesIn K qbal=true)
    (qbas:PySem.W.keepIn K (.ref qbal)=true)
    (qbat:PySem.W.findIn K (.ref qbal) "above" = some none)
    (qbau:PySem.W.findIn K (.ref qbal) "chooser" = some none)
    (qbav:PySem.W.findIn K (.ref qbal) "room" = some none)
    (qbaw:PySem.W.findIn K (.ref qbal) "bucket" = some none)
    (qbax:PySem.W.findIn K (.ref qbal) "queue" = some none)
    {qbay:Addr} {qbaz qbba:Option Addr} {qbbb:Array (Option Value)} {qbbc qbbd qbbe qbbf qbbg qbbh:Value}
    {qbbi:Addr} {qbbj:Value} {qbbk:Option Addr} {qbbl:Nat} {qbbm:Array (Option Value)}
    (qbbn:PySem.W.findIn K (.ref qbal) "__init__" = some (some (.ref qbay)))
    (qbbo:PySem.W.isFn K (.ref qbay)=true)
    (qbbp:K.lookup qbay=some ⟨qbbc,qbaz,.func (PySem.W.fnOf "__init__" "Node.__init__" (zal zcb) (zak zcb) (zab zcb) (.ref qbbi) qbbd qbbe qbbf qbba qbbg qbbh),qbbb⟩)
    (qbbq:PySem.W.codeIn K qbbg "Node.__init__" = true)
    (qbbr:PySem.W.keepIn K (.ref qbay)=true)
    (qbbs:K.lookup qbbi=some ⟨qbbj,qbbk,.seq #[.none] qbbl,qbbm⟩)
    {qbbt:Addr} {qbbu qbbv:Option Addr} {qbbw:Array (Option Value)} {qbbx qbby qbbz qbca qbcb qbcc:Value}
    (qbcd:PySem.W.findIn K (.ref qbal) "has_room_for" = some (some (.ref qbbt)))
    (qbce:PySem.W.isFn K (.ref qbbt)=true)
    (qbcf:K.lookup qbbt=some ⟨qbbx,qbbu,.func (PySem.W.fnOf "has_room_for" "Node.has_room_for" (zal zbj) (zak zbj) (zab zbj) .none qbby qbbz qbca qbbv qbcb qbcc),qbbw⟩)
    (qbcg:PySem.W.codeIn K qbcb "Node.has_room_for" = true)
    (qbch:PySem.W.keepIn K (.ref qbbt)=true)
    {qbci:Addr} {qbcj qbck:Option Addr} {qbcl:Array (Option Value)} {qbcm qbcn qbco qbcp qbcq qbcr:Value}
    (qbcs:PySem.W.findIn K (.ref qbal) "charge" = some (some (.ref qbci)))
    (qbct:PySem.W.isFn K (.ref qbci)=true)
    (qbcu:K.lookup qbci=some ⟨qbcm,qbcj,.func (PySem.W.fnOf "charge" "Node.charge" (zal zdk) (zak zdk) (zab zdk) .none qbcn qbco qbcp qbck qbcq qbcr),qbcl⟩)
    (qbcv:PySem.W.codeIn K qbcq "Node.charge" = true)
    (qbcw:PySem.W.keepIn K (.ref qbci)=true)
    {qbcx:Addr}
    (qbcy:PySem.W.nsIn K mainGlobals "Tree" = some (some (.ref qbcx)))
    (qbcz:PySem.W.plainGet K qbcx Str.empty=true)
    (qbda:PySem.W.hasDictIn K qbcx=true)
    (qbdb:PySem.W.plainOver K qbcx=true)
    (qbdc:PySem.W.findIn K (.ref qbcx) "__setattr__" = some (some (.builtin "object.__setattr__")))
    (qbdd:PySem.W.makesIn K qbcx=true)
    (qbde:PySem.W.keepIn K (.ref qbcx)=true)
    (qbdf:PySem.W.findIn K (.ref qbcx) "most" = some none)
    (qbdg:PySem.W.findIn K (.ref qbcx) "nodes" = some none)
    (qbdh:PySem.W.findIn K (.ref qbcx) "time" = some none)
    (qbdi:PySem.W.findIn K (.ref qbcx) "free" = some none)
    (qbdj:PySem.W.findIn K (.ref qbcx) "counted" = some none)
    (qbdk:PySem.W.findIn K (.ref qbcx) "gone" = some none)
    {qbdl:Addr} {qbdm qbdn:Option Addr} {qbdo:Array (Option Value)} {qbdp qbdq qbdr qbds qbdt qbdu:Value}
    {qbdv:Addr} {qbdw:Value} {qbdx:Option Addr} {qbdy:Nat} {qbdz:Array (Option Value)} {qbea:Tok}
    (qbeb:PySem.W.findIn K (.ref qbcx) "__init__" = some (some (.ref qbdl)))
    (qbec:PySem.W.isFn K (.ref qbdl)=true)
    (qbed:K.lookup qbdl=some ⟨qbdp,qbdm,.func (PySem.W.fnOf "__init__" "Tree.__init__" (zal zcc) (zak zcc) (zab zcc) (.ref qbdv) qbdq qbdr qbds qbdn qbdt qbdu),qbdo⟩)
    (qbee:PySem.W.codeIn K qbdt "Tree.__init__" = true)
    (qbef:PySem.W.keepIn K (.ref qbdl)=true)
    (qbeg:K.lookup qbdv=some ⟨qbdw,qbdx,.seq #[.str (Str.ofString "starts") qbea] qbdy,qbdz⟩)
    {qbeh:Addr} {qbei qbej:Option Addr} {qbek:Array (Option Value)} {qbel qbem qben qbeo qbep qbeq:Value}
    (qber:PySem.W.findIn K (.ref qbcx) "check_class" = some (some (.ref qbeh)))
    (qbes:PySem.W.isFn K (.ref qbeh)=true)
    (qbet:K.lookup qbeh=some ⟨qbel,qbei,.func (PySem.W.fnOf "check_class" "Tree.check_class" (zal zbp) (zak zbp) (zab zbp) .none qbem qben qbeo qbej qbep qbeq),qbek⟩)
    (qbeu:PySem.W.codeIn K qbep "Tree.check_class" = true)
    (qbev:PySem.W.keepIn K (.ref qbeh)=true)
    {qbew:Addr} {qbex qbey:Option Addr} {qbez:Array (Option Value)} {qbfa qbfb qbfc qbfd qbfe qbff:Value}
    (qbfg:PySem.W.findIn K (.ref qbcx) "check_leaf" = some (some (.ref qbew)))
    (qbfh:PySem.W.isFn K (.ref qbew)=true)
    (qbfi:K.lookup qbew=some ⟨qbfa,qbex,.func (PySem.W.fnOf "check_leaf" "Tree.check_leaf" (zal zbx) (zak zbx) (zab zbx) .none qbfb qbfc qbfd qbey qbfe qbff),qbez⟩)
    (qbfj:PySem.W.codeIn K qbfe "Tree.check_leaf" = true)
    (qbfk:PySem.W.keepIn K (.ref qbew)=true)
    {qbfl:Addr} {qbfm qbfn:Option Addr} {qbfo:Array (Option Value)} {qbfp qbfq qbfr qbfs qbft qbfu:Value}
    (qbfv:PySem.W.findIn K (.ref qbcx) "check_place" = some (some (.ref qbfl)))
    (qbfw:PySem.W.isFn K (.ref qbfl)=true)
    (qbfx:K.lookup qbfl=some ⟨qbfp,qbfm,.func (PySem.W.fnOf "check_place" "Tree.check_place" (zal zbq) (zak zbq) (zab zbq) .none qbfq qbfr qbfs qbfn qbft qbfu),qbfo⟩)
    (qbfy:PySem.W.codeIn K qbft "Tree.check_place" = true)
    (qbfz:PySem.W.keepIn K (.ref qbfl)=true)
    {qbga:Addr} {qbgb qbgc:Option Addr} {qbgd:Array (Option Value)} {qbge qbgf qbgg qbgh qbgi qbgj:Value}
    {qbgk:Addr} {qbgl:Value} {qbgm:Option Addr} {qbgn:Nat} {qbgo:Array (Option Value)}
    (qbgp:PySem.W.findIn K (.ref qbcx) "put" = some (some (.ref qbga)))
    (qbgq:PySem.W.isFn K (.ref qbga)=true)
    (qbgr:K.lookup qbga=some ⟨qbge,qbgb,.func (PySem.W.fnOf "put" "Tree.put" (zal zcu) (zak zcu) (zab zcu) (.ref qbgk) qbgf qbgg qbgh qbgc qbgi qbgj),qbgd⟩)
    (qbgs:PySem.W.codeIn K qbgi "Tree.put" = true)
    (qbgt:PySem.W.keepIn K (.ref qbga)=true)
    (qbgu:K.lookup qbgk=some ⟨qbgl,qbgm,.seq #[.none] qbgn,qbgo⟩)
    {qbgv:Addr} {qbgw qbgx:Option Addr} {qbgy:Array (Option Value)} {qbgz qbha qbhb qbhc qbhd qbhe:Value}
    (qbhf:PySem.W.findIn K (.ref qbcx) "come" = some (some (.ref qbgv)))
    (qbhg:PySem.W.isFn K (.ref qbgv)=true)
    (qbhh:K.lookup qbgv=some ⟨qbgz,qbgw,.func (PySem.W.fnOf "come" "Tree.come" (zal zee) (zak zee) (zab zee) .none qbha qbhb qbhc qbgx qbhd qbhe),qbgy⟩)
    (qbhi:PySem.W.codeIn K qbhd "Tree.come" = true)
    (qbhj:PySem.W.keepIn K (.ref qbgv)=true)
    {qbhk:Addr} {qbhl qbhm:Option Addr} {qbhn:Array (Option Value)} {qbho qbhp qbhq qbhr qbhs qbht:Value}
    (qbhu:PySem.W.findIn K (.ref qbcx) "until" = some (some (.ref qbhk)))
    (qbhv:PySem.W.isFn K (.ref qbhk)=true)
    (qbhw:K.lookup qbhk=some ⟨qbho,qbhl,.func (PySem.W.fnOf "until" "Tree.until" (zal zdv) (zak zdv) (zab zdv) .none qbhp qbhq qbhr qbhm qbhs qbht),qbhn⟩)
    (qbhx:PySem.W.codeIn K qbhs "Tree.until" = true)
    (qbhy:PySem.W.keepIn K (.ref qbhk)=true)
    {qbhz:Addr} {qbia qbib:Option Addr} {qbic:Array (Option Value)} {qbid qbie qbif qbig qbih qbii:Value}
    (qbij:PySem.W.findIn K (.ref qbcx) "now" = some (some (.ref qbhz)))
    (qbik:PySem.W.isFn K (.ref qbhz)=true)
    (qbil:K.lookup qbhz=some ⟨qbid,qbia,.func (PySem.W.fnOf "now" "Tree.now" (zal zep) (zak zep) (zab zep) .none qbie qbif qbig qbib qbih qbii),qbic⟩)
    (qbim:PySem.W.codeIn K qbih "Tree.now" = true)
    (qbin:PySem.W.keepIn K (.ref qbhz)=true)
    {qbio:Addr} {qbip qbiq:Option Addr} {qbir:Array (Option Value)} {qbis qbit qbiu qbiv qbiw qbix:Value}
    (qbiy:PySem.W.findIn K (.ref qbcx) "goings" = some (some (.ref qbio)))
    (qbiz:PySem.W.isFn K (.ref qbio)=true)
    (qbja:K.lookup qbio=some ⟨qbis,qbip,.func (PySem.W.fnOf "goings" "Tree.goings" (zal zdl) (zak zdl) (zab zdl) .none qbit qbiu qbiv qbiq qbiw qbix),qbir⟩)
    (qbjb:PySem.W.codeIn K qbiw "Tree.goings" = true)
    (qbjc:PySem.W.keepIn K (.ref qbio)=true)
    {qbjd:Addr} {qbje qbjf:Option Addr} {qbjg:Array (Option Value)} {qbjh qbji qbjj qbjk qbjl qbjm:Value}
    (qbjn:PySem.W.findIn K (.ref qbcx) "way" = some (some (.ref qbjd)))
    (qbjo:PySem.W.isFn K (.ref qbjd)=true)
    (qbjp:K.lookup qbjd=some ⟨qbjh,qbje,.func (PySem.W.fnOf "way" "Tree.way" (zal zew) (zak zew) (zab zew) .none qbji qbjj qbjk qbjf qbjl qbjm),qbjg⟩)
    (qbjq:PySem.W.codeIn K qbjl "Tree.way" = true)
    (qbjr:PySem.W.keepIn K (.ref qbjd)=true)
    {qbjs:Addr} {qbjt qbju:Option Addr} {qbjv:Array (Option Value)} {qbjw qbjx qbjy qbjz qbka qbkb:Value}
    (qbkc:PySem.W.findIn K (.ref qbcx) "below" = some (some (.ref qbjs)))
    (qbkd:PySem.W.isFn K (.ref qbjs)=true)
    (qbke:K.lookup qbjs=some ⟨qbjw,qbjt,.func (PySem.W.fnOf "below" "Tree.below" (zal zeh) (zak zeh) (zab zeh) .none qbjx qbjy qbjz qbju qbka qbkb),qbjv⟩)
    (qbkf:PySem.W.codeIn K qbka "Tree.below" = true)
    (qbkg:PySem.W.keepIn K (.ref qbjs)=true)
    {qbkh:Addr} {qbki qbkj:Option Addr} {qbkk:Array (Option Value)} {qbkl qbkm qbkn qbko qbkp qbkq:Value}
    (qbkr:PySem.W.findIn K (.ref qbcx) "from_road" = some (some (.ref qbkh)))
    (qbks:PySem.W.isFn K (.ref qbkh)=true)
    (qbkt:K.lookup qbkh=some ⟨qbkl,qbki,.func (PySem.W.fnOf "from_road" "Tree.from_road" (zal zcd) (zak zcd) (zab zcd) .none qbkm qbkn qbko qbkj qbkp qbkq),qbkk⟩)
    (qbku:PySem.W.codeIn K qbkp "Tree.from_road" = true)
    (qbkv:PySem.W.keepIn K (.ref qbkh)=true)
    {qbkw:Addr} {qbkx qbky:Option Addr} {qbkz:Array (Option Value)} {qbla qblb qblc qbld qble qblf:Value}
    (qblg:PySem.W.findIn K (.ref qbcx) "full_leaves" = some (some (.ref qbkw)))
    (qblh:PySem.W.isFn K (.ref qbkw)=true)
    (qbli:K.lookup qbkw=some ⟨qbla,qbkx,.func (PySem.W.fnOf "full_leaves" "Tree.full_leaves" (zal zbr) (zak zbr) (zab zbr) .none qblb qblc qbld qbky qble qblf),qbkz⟩)
    (qblj:PySem.W.codeIn K qble "Tree.full_leaves" = true)
    (qblk:PySem.W.keepIn K (.ref qbkw)=true)
    {qbll:Addr} {qblm qbln:Option Addr} {qblo:Array (Option Value)} {qblp qblq qblr qbls qblt qblu:Value}
    (qblv:PySem.W.findIn K (.ref qbcx) "leaf_time" = some (some (.ref qbll)))
    (qblw:PySem.W.isFn K (.ref qbll)=true)
    (qblx:K.lookup qbll=some ⟨qblp,qblm,.func (PySem.W.fnOf "leaf_time" "Tree.leaf_time" (zal zce) (zak zce) (zab zce) .none qblq qblr qbls qbln qblt qblu),qblo⟩)
    (qbly:PySem.W.codeIn K qblt "Tree.leaf_time" = true)
    (qblz:PySem.W.keepIn K (.ref qbll)=true)
    {qbma:Addr} {qbmb qbmc:Option Addr} {qbmd:Array (Option Value)} {qbme qbmf qbmg qbmh qbmi qbmj:Value}
    (qbmk:PySem.W.findIn K (.ref qbcx) "ready_at" = some (some (.ref qbma)))
    (qbml:PySem.W.isFn K (.ref qbma)=true)
    (qbmm:K.lookup qbma=some ⟨qbme,qbmb,.func (PySem.W.fnOf "ready_at" "Tree.ready_at" (zal zcp) (zak zcp) (zab zcp) .none qbmf qbmg qbmh qbmc qbmi qbmj),qbmd⟩)
    (qbmn:PySem.W.codeIn K qbmi "Tree.ready_at" = true)
    (qbmo:PySem.W.keepIn K (.ref qbma)=true)
    {qbmp:Addr} {qbmq qbmr:Option Addr} {qbms:Array (Option Value)} {qbmt qbmu qbmv qbmw qbmx qbmy:Value}
    (qbmz:PySem.W.findIn K (.ref qbcx) "next_choice" = some (some (.ref qbmp)))
    (qbna:PySem.W.isFn K (.ref qbmp)=true)
    (qbnb:K.lookup qbmp=some ⟨qbmt,qbmq,.func (PySem.W.fnOf "next_choice" "Tree.next_choice" (zal zbs) (zak zbs) (zab zbs) .none qbmu qbmv qbmw qbmr qbmx qbmy),qbms⟩)
    (qbnc:PySem.W.codeIn K qbmx "Tree.next_choice" = true)
    (qbnd:PySem.W.keepIn K (.ref qbmp)=true)
    {qbne:Addr} {qbnf qbng:Option Addr} {qbnh:Array (Option Value)} {qbni qbnj qbnk qbnl qbnm qbnn:Value}
    (qbno:PySem.W.findIn K (.ref qbcx) "make_choice" = some (some (.ref qbne)))
    (qbnp:PySem.W.isFn K (.ref qbne)=true)
    (qbnq:K.lookup qbne=some ⟨qbni,qbnf,.func (PySem.W.fnOf "make_choice" "Tree.make_choice" (zal zbt) (zak zbt) (zab zbt) .none qbnj qbnk qbnl qbng qbnm qbnn),qbnh⟩)
    (qbnr:PySem.W.codeIn K qbnm "Tree.make_choice" = true)
    (qbns:PySem.W.keepIn K (.ref qbne)=true)
    {qbnt:Addr} {qbnu qbnv:Option Addr} {qbnw:Array (Option Value)} {qbnx qbny qbnz qboa qbob qboc:Value}
    (qbod:PySem.W.findIn K (.ref qbcx) "send_first" = some (some (.ref qbnt)))
    (qboe:PySem.W.isFn K (.ref qbnt)=true)
    (qbof:K.lookup qbnt=some ⟨qbnx,qbnu,.func (PySem.W.fnOf "send_first" "Tree.send_first" (zal zby) (zak zby) (zab zby) .none qbny qbnz qboa qbnv qbob qboc),qbnw⟩)
    (qbog:PySem.W.codeIn K qbob "Tree.send_first" = true)
    (qboh:PySem.W.keepIn K (.ref qbnt)=true)
    : ∃ fd:FuncData,(∀ (s:Shared) (v:Value),BindsTo s fd ⟨[v],[]⟩ [("_law_script", v)])/\∀ base:Heap,K.In base->base.Ns mainGlobals mg->FnOk l.prog w K mg base CX0 11 fa fd ["_law_script"] (spLaw K):=by
  have e:=hfa.symm.trans (PySem.W.mg_of X G a17)
  cases e
  have qboi:XC K qdi:=⟨qdz,qea,qeb,qec,qed,kg,kt,qee,qef,zff qej⟩
  have qboj:XC K qdj:=⟨qel,qem,qen,qeo,qep,kg,kt,qeq,qer,zff qev⟩
  have qbok:XC K qdk:=⟨qex,qey,qez,qfa,qfb,kg,kt,qfc,qfd,zff qfh⟩
  have qbol:XC K qdl:=⟨qfj,qfk,qfl,qfm,qfn,kg,kt,qfo,qfp,zff qft⟩
  have qbom:XC K qdm:=⟨qfv,qfw,qfx,qfy,qfz,kg,kt,qga,qgb,zff qgf⟩
  have qbon:XC K qdn:=⟨qgh,qgi,qgj,qgk,qgl,kg,kt,qgm,qgn,zff qgr⟩
  have qboo:XC K qdo:=⟨qgt,qgu,qgv,qgw,qgx,kg,kt,qgy,qgz,zff qhd⟩
  have qbop:XC K qdp:=⟨qhf,qhg,qhh,qhi,qhj,kg,kt,qhk,qhl,zff qhp⟩
  have F1:=zaw (st:=zfn) l1 c1 k1
  have F2:=zaw (st:=zif) l2 c2 k2
  have F3:=zaw (st:=zlm) l3 c3 k3
  have F4:=zaw (st:=zig) l4 c4 k4
  have F5:=zaw (st:=zih) l5 c5 k5
  have F6:=zaw (st:=zfo) l6 c6 k6
  have F7:=zaw (st:=zdw) l7 c7 k7
  have F8:=zaw (st:=zef) l8 c8 k8
  have F9:=zaw (st:=zfp) l9 c9 k9
  have F10:=zaw (st:=zeg) l10 c10 k10
  have F11:=zaw (st:=zeu) l11 c11 k11
  have F12:=zaw (st:=zdm) l12 c12 k12
  have F13:=zaw (st:=zdx) l13 c13 k13
  have F14:=zaw (st:=zen) l14 c14 k14
  have F15:=zaw (st:=zeo) l15 c15 k15
  have F16:=zaw (st:=zev) l16 c16 k16
  have qboq:=zau (st:=zcw) qiu qiv
  have qbor:=(zaw (st:=zcw) qiu qiv qiw).binds (ps:=["self"]) (fun _ _ _ _ _ _=>L2.el1 (fun _=>rfl))
  have qbos:=zau (st:=zbe) qjj qjk
  have qbot:=(zaw (st:=zbe) qjj qjk qjl).binds (ps:=["self", "name"]) (fun _ _ _ _ _ _=>L2.el2 (fun _ _=>rfl))
  have qbou:=zau (st:=zdf) qjy qjz
  have qbov:=(zaw (st:=zdf) qjy qjz qka).binds (ps:=["self", "name", "share"]) (fun _ _ _ _ _ _=>L2.el3 (fun _ _ _=>rfl))
  have qbow:=zau (st:=zcj) qkn qko
  have qbox:=(zaw (st:=zcj) qkn qko qkp).binds (ps:=["self"]) (fun _ _ _ _ _ _=>L2.el1 (fun _=>rfl))
  have qboy:=zau (st:=zbn) qlc qld
  have qboz:=(zaw (st:=zbn) qlc qld qle).binds (ps:=["self", "name"]) (fun _ _ _ _ _ _=>L2.el2 (fun _ _=>rfl))
  have qbpa:=zau (st:=zdg) qmh qmi
  have qbpb:=(zaw (st:=zdg) qmh qmi qmj).binds (ps:=["self", "most"]) (fun _ _ _ _ _ _=>L2.el2 (fun _ _=>rfl))
  have qbpc:=zau (st:=zcx) qmw qmx
  have qbpd:=(zaw (st:=zcx) qmw qmx qmy).binds (ps:=["self", "name"]) (fun _ _ _ _ _ _=>L2.el2 (fun _ _=>rfl))
  have qbpe:=zau (st:=zdh) qnl qnm
  have qbpf:=(zaw (st:=zdh) qnl qnm qnn).binds (ps:=["self", "ready"]) (fun _ _ _ _ _ _=>L2.el2 (fun _ _=>rfl))
  have qbpg:=zau (st:=zck) qoa qob
  have qbph:=(zaw (st:=zck) qoa qob qoc).binds (ps:=["self", "name", "length"]) (fun _ _ _ _ _ _=>L2.el3 (fun _ _ _=>rfl))
  have qbpi:=zau (st:=zcl) qop qoq
  have qbpj:=(zaw (st:=zcl) qop qoq qor).binds (ps:=["self", "name"]) (fun _ _ _ _ _ _=>L2.el2 (fun _ _=>rfl))
  have qbpk:=zau (st:=zbg) qpe qpf
  have qbpl:=(zaw (st:=zbg) qpe qpf qpj).binds (ps:=["self", "most"]) (fun _ _ _ _ _ _=>L2.el2 (fun _ _=>rfl))
  have qbpm:=zau (st:=zdr) qpw qpx
  have qbpn:=(zaw (st:=zdr) qpw qpx qpy).binds (ps:=["self", "name", "share"]) (fun _ _ _ _ _ _=>L2.el3 (fun _ _ _=>rfl))
  have qbpo:=zau (st:=zcy) qql qqm
  have qbpp:=(zaw (st:=zcy) qql qqm qqn).binds (ps:=["self"]) (fun _ _ _ _ _ _=>L2.el1 (fun _=>rfl))
  have qbpq:=zau (st:=zbu) qra qrb
  have qbpr:=(zaw (st:=zbu) qra qrb qrc).binds (ps:=["self", "name"]) (fun _ _ _ _ _ _=>L2.el2 (fun _ _=>rfl))
  have qbps:=zau (st:=zcm) qrp qrq
  have qbpt:=(zaw (st:=zcm) qrp qrq qrr).binds (ps:=["self", "ready"]) (fun _ _ _ _ _ _=>L2.el2 (fun _ _=>rfl))
  have qbpu:=zau (st:=zds) qse qsf
  have qbpv:=(zaw (st:=zds) qse qsf qsg).binds (ps:=["self", "length"]) (fun _ _ _ _ _ _=>L2.el2 (fun _ _=>rfl))
  have qbpw:=zau (st:=zdi) qth qti
  have qbpx:=(zaw (st:=zdi) qth qti qtj).binds (ps:=["self", "most"]) (fun _ _ _ _ _ _=>L2.el2 (fun _ _=>rfl))
  have qbpy:=zau (st:=zcz) qtw qtx
  have qbpz:=(zaw (st:=zcz) qtw qtx qty).binds (ps:=["self", "name"]) (fun _ _ _ _ _ _=>L2.el2 (fun _ _=>rfl))
  have qbqa:=zau (st:=zbo) qul qum
  have qbqb:=(zaw (st:=zbo) qul qum qun).binds (ps:=["self", "name"]) (fun _ _ _ _ _ _=>L2.el2 (fun _ _=>rfl))
  have qbqc:=zau (st:=zdj) qva qvb
  have qbqd:=(zaw (st:=zdj) qva qvb qvc).binds (ps:=["self", "ready"]) (fun _ _ _ _ _ _=>L2.el2 (fun _ _=>rfl))
  have qbqe:=zau (st:=zbv) qvp qvq
  have qbqf:=(zaw (st:=zbv) qvp qvq qvr).binds (ps:=["self"]) (fun _ _ _ _ _ _=>L2.el1 (fun _=>rfl))
  have qbqg:=zau (st:=zbh) qwe qwf
  have qbqh:=(zaw (st:=zbh) qwe qwf qwg).binds (ps:=["self", "ready"]) (fun _ _ _ _ _ _=>L2.el2 (fun _ _=>rfl))
  have qbqi:=zau (st:=zcn) qwt qwu
  have qbqj:=(zaw (st:=zcn) qwt qwu qwv).binds (ps:=["self", "name", "length"]) (fun _ _ _ _ _ _=>L2.el3 (fun _ _ _=>rfl))
  have qbqk:=zau (st:=zbi) qxi qxj
  have qbql:=(zaw (st:=zbi) qxi qxj qxn).binds (ps:=["self", "most"]) (fun _ _ _ _ _ _=>L2.el2 (fun _ _=>rfl))
  have qbqm:=zau (st:=zdt) qya qyb
  have qbqn:=(zaw (st:=zdt) qya qyb qyc).binds (ps:=["self", "name", "share"]) (fun _ _ _ _ _ _=>L2.el3 (fun _ _ _=>rfl))
  have qbqo:=zau (st:=zda) qyp qyq
  have qbqp:=(zaw (st:=zda) qyp qyq qyr).binds (ps:=["self"]) (fun _ _ _ _ _ _=>L2.el1 (fun _=>rfl))
  have qbqq:=zau (st:=zbw) qze qzf
  have qbqr:=(zaw (st:=zbw) qze qzf qzg).binds (ps:=["self", "name"]) (fun _ _ _ _ _ _=>L2.el2 (fun _ _=>rfl))
  have qbqs:=zau (st:=zco) qzt qzu
  have qbqt:=(zaw (st:=zco) qzt qzu qzv).binds (ps:=["self", "ready"]) (fun _ _ _ _ _ _=>L2.el2 (fun _ _=>rfl))
  have qbqu:=zau (st:=zdu) qbai qbaj
  have qbqv:=(zaw (st:=zdu) qbai qbaj qbak).binds (ps:=["self", "length"]) (fun _ _ _ _ _ _=>L2.el2 (fun _ _=>rfl))
  have qbqw:=zau (st:=zcb) qbbp qbbq
  have qbqx:Binds K _ ["self", "above", "chooser", "room"] []:=zes (fd:=PySem.W.fnOf "__init__" "Node.__init__" (zal zcb) (zak zcb) (zab zcb) (.ref qbbi) qbbd qbbe qbbf qbba qbbg qbbh) rfl qbbs (fun us hl=>match us,(show us.length = 4 by simpa using hl) with | [_,_,_,_],_=>⟨_,rfl,rfl⟩)
  have qbqy:Binds K _ ["self", "above", "chooser", "room"] [.none]:=zes (fd:=PySem.W.fnOf "__init__" "Node.__init__" (zal zcb) (zak zcb) (zab zcb) (.ref qbbi) qbbd qbbe qbbf qbba qbbg qbbh) rfl qbbs (fun us hl=>match us,(show us.length = 3 by simpa using hl) with | [_,_,_],_=>⟨_,rfl,rfl⟩)
  have qbqz:=zau (st:=zbj) qbcf qbcg
  have qbra:=(zaw (st:=zbj) qbcf qbcg qbch).binds (ps:=["self", "length"]) (fun _ _ _ _ _ _=>L2.el2 (fun _ _=>rfl))
  have qbrb:=zau (st:=zdk) qbcu qbcv
  have qbrc:=(zaw (st:=zdk) qbcu qbcv qbcw).binds (ps:=["self", "at", "length"]) (fun _ _ _ _ _ _=>L2.el3 (fun _ _ _=>rfl))
  have qbrd:=zau (st:=zcc) qbed qbee
  have qbre:Binds K _ ["self", "most", "kind"] []:=zes (fd:=PySem.W.fnOf "__init__" "Tree.__init__" (zal zcc) (zak zcc) (zab zcc) (.ref qbdv) qbdq qbdr qbds qbdn qbdt qbdu) rfl qbeg (fun us hl=>match us,(show us.length = 3 by simpa using hl) with | [_,_,_],_=>⟨_,rfl,rfl⟩)
  have qbrf:Binds K _ ["self", "most", "kind"] [.str (Str.ofString "starts") qbea]:=zes (fd:=PySem.W.fnOf "__init__" "Tree.__init__" (zal zcc) (zak zcc) (zab zcc) (.ref qbdv) qbdq qbdr qbds qbdn qbdt qbdu) rfl qbeg (fun us hl=>match us,(show us.length = 2 by simpa using hl) with | [_,_],_=>⟨_,rfl,rfl⟩)
  have qbrg:=zau (st:=zbp) qbet qbeu
  have qbrh:=(zaw (st:=zbp) qbet qbeu qbev).binds (ps:=["self", "name"]) (fun _ _ _ _ _ _=>L2.el2 (fun _ _=>rfl))
  have qbri:=zau (st:=zbx) qbfi qbfj
  have qbrj:=(zaw (st:=zbx) qbfi qbfj qbfk).binds (ps:=["self", "name"]) (fun _ _ _ _ _ _=>L2.el2 (fun _ _=>rfl))
  have qbrk:=zau (st:=zbq) qbfx qbfy
  have qbrl:=(zaw (st:=zbq) qbfx qbfy qbfz).binds (ps:=["self", "under", "kind"]) (fun _ _ _ _ _ _=>L2.el3 (fun _ _ _=>rfl))
  have qbrm:=zau (st:=zcu) qbgr qbgs
  have qbrn:Binds K _ ["self", "name", "under", "kind", "share", "room"] []:=zes (fd:=PySem.W.fnOf "put" "Tree.put" (zal zcu) (zak zcu) (zab zcu) (.ref qbgk) qbgf qbgg qbgh qbgc qbgi qbgj) rfl qbgu (fun us hl=>match us,(show us.length = 6 by simpa using hl) with | [_,_,_,_,_,_],_=>⟨_,rfl,rfl⟩)
  have qbro:Binds K _ ["self", "name", "under", "kind", "share", "room"] [.none]:=zes (fd:=PySem.W.fnOf "put" "Tree.put" (zal zcu) (zak zcu) (zab zcu) (.ref qbgk) qbgf qbgg qbgh qbgc qbgi qbgj) rfl qbgu (fun us hl=>match us,(show us.length = 5 by simpa using hl) with | [_,_,_,_,_],_=>⟨_,rfl,rfl⟩)
  have qbrp:=zau (st:=zee) qbhh qbhi
  have qbrq:=(zaw (st:=zee) qbhh qbhi qbhj).binds (ps:=["self", "name", "length"]) (fun _ _ _ _ _ _=>L2.el3 (fun _ _ _=>rfl))
  have qbrr:=zau (st:=zdv) qbhw qbhx
  have qbrs:=(zaw (st:=zdv) qbhw qbhx qbhy).binds (ps:=["self", "at"]) (fun _ _ _ _ _ _=>L2.el2 (fun _ _=>rfl))
  have qbrt:=zau (st:=zep) qbil qbim
  have qbru:=(zaw (st:=zep) qbil qbim qbin).binds (ps:=["self"]) (fun _ _ _ _ _ _=>L2.el1 (fun _=>rfl))
  have qbrv:=zau (st:=zdl) qbja qbjb
  have qbrw:=(zaw (st:=zdl) qbja qbjb qbjc).binds (ps:=["self"]) (fun _ _ _ _ _ _=>L2.el1 (fun _=>rfl))
  have qbrx:=zau (st:=zew) qbjp qbjq
  have qbry:=(zaw (st:=zew) qbjp qbjq qbjr).binds (ps:=["self", "name"]) (fun _ _ _ _ _ _=>L2.el2 (fun _ _=>rfl))
  have qbrz:=zau (st:=zeh) qbke qbkf
  have qbsa:=(zaw (st:=zeh) qbke qbkf qbkg).binds (ps:=["self", "name"]) (fun _ _ _ _ _ _=>L2.el2 (fun _ _=>rfl))
  have qbsb:=zau (st:=zcd) qbkt qbku
  have qbsc:=(zaw (st:=zcd) qbkt qbku qbkv).binds (ps:=["self", "name"]) (fun _ _ _ _ _ _=>L2.el2 (fun _ _=>rfl))
  have qbsd:=zau (st:=zbr) qbli qblj
  have qbse:=(zaw (st:=zbr) qbli qblj qblk).binds (ps:=["self"]) (fun _ _ _ _ _ _=>L2.el1 (fun _=>rfl))
  have qbsf:=zau (st:=zce) qblx qbly
  have qbsg:=(zaw (st:=zce) qblx qbly qblz).binds (ps:=["self", "name", "at"]) (fun _ _ _ _ _ _=>L2.el3 (fun _ _ _=>rfl))
  have qbsh:=zau (st:=zcp) qbmm qbmn
  have qbsi:=(zaw (st:=zcp) qbmm qbmn qbmo).binds (ps:=["self", "at"]) (fun _ _ _ _ _ _=>L2.el2 (fun _ _=>rfl))
  have qbsj:=zau (st:=zbs) qbnb qbnc
  have qbsk:=(zaw (st:=zbs) qbnb qbnc qbnd).binds (ps:=["self"]) (fun _ _ _ _ _ _=>L2.el1 (fun _=>rfl))
  have qbsl:=zau (st:=zbt) qbnq qbnr
  have qbsm:=(zaw (st:=zbt) qbnq qbnr qbns).binds (ps:=["self", "at"]) (fun _ _ _ _ _ _=>L2.el2 (fun _ _=>rfl))
  have qbsn:=zau (st:=zby) qbof qbog
  have qbso:=(zaw (st:=zby) qbof qbog qboh).binds (ps:=["self", "name", "at"]) (fun _ _ _ _ _ _=>L2.el3 (fun _ _ _=>rfl))
  have T:Txt K mg qdi qdj qdk qdl qdm qdn qdo qdp qhz qlf qlh qsh qbal qbcx:=⟨PySem.W.mg_of X G qdy,qboi,qeg,qej,PySem.W.mg_of X G qek,qboj,qes,qev,PySem.W.mg_of X G qew,qbok,qfe,qfh,PySem.W.mg_of X G qfi,qbol,qfq,qft,PySem.W.mg_of X G qfu,qbom,qgc,qgf,PySem.W.mg_of X G qgg,qbon,qgo,qgr,PySem.W.mg_of X G qgs,qboo,qha,qhd,PySem.W.mg_of X G qhe,qbop,qhm,qhp,PySem.W.mg_none_of X G z1,PySem.W.mg_none_of X G z2,PySem.W.mg_none_of X G z3,PySem.W.mg_none_of X G z4,PySem.W.mg_none_of X G z5,PySem.W.mg_none_of X G z6,PySem.W.mg_none_of X G z7,PySem.W.mg_none_of X G z8,⟨_,PySem.W.mg_of X G qhq⟩,⟨_,PySem.W.mg_of X G qhr⟩,⟨_,PySem.W.mg_of X G qhs⟩,⟨_,PySem.W.mg_of X G qht⟩,⟨_,PySem.W.mg_of X G qhu⟩,⟨_,PySem.W.mg_of X G qhv,fun H=>.inr ⟨_,_,_,qhw,rfl,rfl,(by show 2<=sizeLine; decide),.cons ⟨_,rfl⟩ (.cons ⟨_,rfl⟩ (.nil))⟩⟩,⟨_,PySem.W.mg_of X G qhx⟩,⟨_,PySem.W.mg_of X G qhy⟩,⟨_,_,F1,F1.binds (ps:=["one", "other"]) (fun _ _ _ _ _ _=>L2.el2 (fun _ _=>rfl)),PySem.W.mg_of X G a1⟩,⟨_,_,F2,F2.binds (ps:=["top", "bottom"]) (fun _ _ _ _ _ _=>L2.el2 (fun _ _=>rfl)),PySem.W.mg_of X G a2⟩,⟨_,_,F3,F3.binds (ps:=["one", "other"]) (fun _ _ _ _ _ _=>L2.el2 (fun _ _=>rfl)),PySem.W.mg_of X G a3⟩,⟨_,_,F4,F4.binds (ps:=["one", "other"]) (fun _ _ _ _ _ _=>L2.el2 (fun _ _=>rfl)),PySem.W.mg_of X G a4⟩,⟨_,_,F5,F5.binds (ps:=["one", "other"]) (fun _ _ _ _ _ _=>L2.el2 (fun _ _=>rfl)),PySem.W.mg_of X G a5⟩,⟨_,_,F6,F6.binds (ps:=["one", "other"]) (fun _ _ _ _ _ _=>L2.el2 (fun _ _=>rfl)),PySem.W.mg_of X G a6⟩,⟨_,_,F7,F7.binds (ps:=["share"]) (fun _ _ _ _ _ _=>L2.el1 (fun _=>rfl)),PySem.W.mg_of X G a7⟩,⟨_,_,F8,F8.binds (ps:=["most"]) (fun _ _ _ _ _ _=>L2.el1 (fun _=>rfl)),PySem.W.mg_of X G a8⟩,⟨_,_,F9,F9.binds (ps:=["text"]) (fun _ _ _ _ _ _=>L2.el1 (fun _=>rfl)),PySem.W.mg_of X G a9⟩,⟨_,_,F10,F10.binds (ps:=["kind", "most"]) (fun _ _ _ _ _ _=>L2.el2 (fun _ _=>rfl)),PySem.W.mg_of X G a10⟩,⟨_,_,F11,F11.binds (ps:=["share", "other", "most"]) (fun _ _ _ _ _ _=>L2.el3 (fun _ _ _=>rfl)),PySem.W.mg_of X G a11⟩,⟨_,_,F12,F12.binds (ps:=["_law_script", "_law_k"]) (fun _ _ _ _ _ _=>L2.el2 (fun _ _=>rfl)),PySem.W.mg_of X G a12⟩,⟨_,_,F13,F13.binds (ps:=["_law_cell"]) (fun _ _ _ _ _ _=>L2.el1 (fun _=>rfl)),PySem.W.mg_of X G a13⟩,⟨_,_,F14,F14.binds (ps:=["_law_low", "_law_high", "_law_most", "_law_row"]) (fun _ _ _ _ _ _=>L2.el4 (fun _ _ _ _=>rfl)),PySem.W.mg_of X G a14⟩,⟨_,_,F15,F15.binds (ps:=["_law_tree_here", "_law_cells", "_law_most"]) (fun _ _ _ _ _ _=>L2.el3 (fun _ _ _=>rfl)),PySem.W.mg_of X G a15⟩,⟨_,_,F16,F16.binds (ps:=["_law_told", "_law_low", "_law_high", "_law_most"]) (fun _ _ _ _ _ _=>L2.el4 (fun _ _ _ _=>rfl)),PySem.W.mg_of X G a16⟩,PySem.W.mg_of X G qia,⟨qib,qic,qid,qie⟩,qih,⟨⟨_,_,qboq,⟨qif,qis,qit,qig⟩,(fun dvs h=>by simp only [List.mem_cons,List.not_mem_nil,or_false] at h; subst h; exact BindsV.nil qbor)⟩⟩,⟨⟨_,_,qbos,⟨qjh,qji,qjl⟩,(fun dvs h=>by simp only [List.mem_cons,List.not_mem_nil,or_false] at h; subst h; exact BindsV.nil qbot)⟩⟩,⟨⟨_,_,qbou,⟨qjw,qjx,qka⟩,(fun dvs h=>by simp only [List.mem_cons,List.not_mem_nil,or_false] at h; subst h; exact BindsV.nil qbov)⟩⟩,⟨⟨_,_,qbow,⟨qkl,qkm,qkp⟩,(fun dvs h=>by simp only [List.mem_cons,List.not_mem_nil,or_false] at h; subst h; exact BindsV.nil qbox)⟩⟩,⟨⟨_,_,qboy,⟨qla,qlb,qle⟩,(fun dvs h=>by simp only [List.mem_cons,List.not_mem_nil,or_false] at h; subst h; exact BindsV.nil qboz)⟩⟩,PySem.W.mg_of X G qlg,PySem.W.mg_of X G qli,⟨qlj,qlk,qll,qlm⟩,qlp,qlq,qlr,qls,qlt,qlu,⟨⟨_,_,qbpa,⟨qln,qmf,qmg,qlo⟩,(fun dvs h=>by simp only [List.mem_cons,List.not_mem_nil,or_false] at h; subst h; exact BindsV.nil qbpb)⟩⟩,⟨⟨_,_,qbpc,⟨qmu,qmv,qmy⟩,(fun dvs h=>by simp only [List.mem_cons,List.not_mem_nil,or_false] at h; subst h; exact BindsV.nil qbpd)⟩⟩,⟨⟨_,_,qbpe,⟨qnj,qnk,qnn⟩,(fun dvs h=>by simp only [List.mem_cons,List.not_mem_nil,or_false] at h; subst h; exact BindsV.nil qbpf)⟩⟩,⟨⟨_,_,qbpg,⟨qny,qnz,qoc⟩,(fun dvs h=>by simp only [List.mem_cons,List.not_mem_nil,or_false] at h; subst h; exact BindsV.nil qbph)⟩⟩,⟨⟨_,_,qbpi,⟨qon,qoo,qor⟩,(fun dvs h=>by simp only [List.mem_cons,List.not_mem_nil,or_false] at h; subst h; exact BindsV.nil qbpj)⟩⟩,⟨⟨_,_,qbpk,⟨⟨_,qpg,qph⟩,qpi,qpj⟩,BindsV.nil qbpl⟩⟩,⟨⟨_,_,qbpm,⟨qpu,qpv,qpy⟩,(fun dvs h=>by simp only [List.mem_cons,List.not_mem_nil,or_false] at h; subst h; exact BindsV.nil qbpn)⟩⟩,⟨⟨_,_,qbpo,⟨qqj,qqk,qqn⟩,(fun dvs h=>by simp only [List.mem_cons,List.not_mem_nil,or_false] at h; subst h; exact BindsV.nil qbpp)⟩⟩,⟨⟨_,_,qbpq,⟨qqy,qqz,qrc⟩,(fun dvs h=>by simp only [List.mem_cons,List.not_mem_nil,or_false] at h; subst h; exact BindsV.nil qbpr)⟩⟩,⟨⟨_,_,qbps,⟨qrn,qro,qrr⟩,(fun dvs h=>by simp only [List.mem_cons,List.not_mem_nil,or_false] at h; subst h; exact BindsV.nil qbpt)⟩⟩,⟨⟨_,_,qbpu,⟨qsc,qsd,qsg⟩,(fun dvs h=>by simp only [List.mem_cons,List.not_mem_nil,or_false] at h; subst h; exact BindsV.nil qbpv)⟩⟩,PySem.W.mg_of X G qsi,⟨qsj,qsk,qsl,qsm⟩,qsp,qsq,qsr,qss,qst,qsu,⟨⟨_,_,qbpw,⟨qsn,qtf,qtg,qso⟩,(fun dvs h=>by simp only [List.mem_cons,List.not_mem_nil,or_false] at h; subst h; exact BindsV.nil qbpx)⟩⟩,⟨⟨_,_,qbpy,⟨qtu,qtv,qty⟩,(fun dvs h=>by simp only [List.mem_cons,List.not_mem_nil,or_false] at h; subst h; exact BindsV.nil qbpz)⟩⟩,⟨⟨_,_,qbqa,⟨quj,quk,qun⟩,(fun dvs h=>by simp only [List.mem_cons,List.not_mem_nil,or_false] at h; subst h; exact BindsV.nil qbqb)⟩⟩,⟨⟨_,_,qbqc,⟨quy,quz,qvc⟩,(fun dvs h=>by simp only [List.mem_cons,List.not_mem_nil,or_false] at h; subst h; exact BindsV.nil qbqd)⟩⟩,⟨⟨_,_,qbqe,⟨qvn,qvo,qvr⟩,(fun dvs h=>by simp only [List.mem_cons,List.not_mem_nil,or_false] at h; subst h; exact BindsV.nil qbqf)⟩⟩,⟨⟨_,_,qbqg,⟨qwc,qwd,qwg⟩,(fun dvs h=>by simp only [List.mem_cons,List.not_mem_nil,or_false] at h; subst h; exact BindsV.nil qbqh)⟩⟩,⟨⟨_,_,qbqi,⟨qwr,qws,qwv⟩,(fun dvs h=>by simp only [List.mem_cons,List.not_mem_nil,or_false] at h; subst h; exact BindsV.nil qbqj)⟩⟩,⟨⟨_,_,qbqk,⟨⟨_,qxk,qxl⟩,qxm,qxn⟩,BindsV.nil qbql⟩⟩,⟨⟨_,_,qbqm,⟨qxy,qxz,qyc⟩,(fun dvs h=>by simp only [List.mem_cons,List.not_mem_nil,or_false] at h; subst h; exact BindsV.nil qbqn)⟩⟩,⟨⟨_,_,qbqo,⟨qyn,qyo,qyr⟩,(fun dvs h=>by simp only [List.mem_cons,List.not_mem_nil,or_false] at h; subst h; exact BindsV.nil qbqp)⟩⟩,⟨⟨_,_,qbqq,⟨qzc,qzd,qzg⟩,(fun dvs h=>by simp only [List.mem_cons,List.not_mem_nil,or_false] at h; subst h; exact BindsV.nil qbqr)⟩⟩,⟨⟨_,_,qbqs,⟨qzr,qzs,qzv⟩,(fun dvs h=>by simp only [List.mem_cons,List.not_mem_nil,or_false] at h; subst h; exact BindsV.nil qbqt)⟩⟩,⟨⟨_,_,qbqu,⟨qbag,qbah,qbak⟩,(fun dvs h=>by simp only [List.mem_cons,List.not_mem_nil,or_false] at h; subst h; exact BindsV.nil qbqv)⟩⟩,PySem.W.mg_of X G qbam,⟨qban,qbao,qbap,qbaq⟩,qbat,qbau,qbav,qbaw,qbax,⟨⟨_,_,qbqw,⟨qbar,qbbn,qbbo,qbas⟩,(fun dvs h=>by simp only [List.mem_cons,List.not_mem_nil,or_false] at h; rcases h with rfl | rfl <;> first | exact ⟨_,.nil,qbqx⟩ | exact ⟨_,(.cons rfl .nil),qbqy⟩)⟩⟩,⟨⟨_,_,qbqz,⟨qbcd,qbce,qbch⟩,(fun dvs h=>by simp only [List.mem_cons,List.not_mem_nil,or_false] at h; subst h; exact BindsV.nil qbra)⟩⟩,⟨⟨_,_,qbrb,⟨qbcs,qbct,qbcw⟩,(fun dvs h=>by simp only [List.mem_cons,List.not_mem_nil,or_false] at h; subst h; exact BindsV.nil qbrc)⟩⟩,PySem.W.mg_of X G qbcy,⟨qbcz,qbda,qbdb,qbdc⟩,qbdf,qbdg,qbdh,qbdi,qbdj,qbdk,⟨⟨_,_,qbrd,⟨qbdd,qbeb,qbec,qbde⟩,(fun dvs h=>by simp only [List.mem_cons,List.not_mem_nil,or_false] at h; rcases h with rfl | rfl <;> first | exact ⟨_,.nil,qbre⟩ | exact ⟨_,(.cons ⟨_,rfl⟩ .nil),qbrf⟩)⟩⟩,⟨⟨_,_,qbrg,⟨qber,qbes,qbev⟩,(fun dvs h=>by simp only [List.mem_cons,List.not_mem_nil,or_false] at h; subst h; exact BindsV.nil qbrh)⟩⟩,⟨⟨_,_,qbri,⟨qbfg,qbfh,qbfk⟩,(fun dvs h=>by simp only [List.mem_cons,List.not_mem_nil,or_false] at h; subst h; exact BindsV.nil qbrj)⟩⟩,⟨⟨_,_,qbrk,⟨qbfv,qbfw,qbfz⟩,(fun dvs h=>by simp only [List.mem_cons,List.not_mem_nil,or_false] at h; subst h; exact BindsV.nil qbrl)⟩⟩,⟨⟨_,_,qbrm,⟨qbgp,qbgq,qbgt⟩,(fun dvs h=>by simp only [List.mem_cons,List.not_mem_nil,or_false] at h; rcases h with rfl | rfl <;> first | exact ⟨_,.nil,qbrn⟩ | exact ⟨_,(.cons rfl .nil),qbro⟩)⟩⟩,⟨⟨_,_,qbrp,⟨qbhf,qbhg,qbhj⟩,(fun dvs h=>by simp only [List.mem_cons,List.not_mem_nil,or_false] at h; subst h; exact BindsV.nil qbrq)⟩⟩,⟨⟨_,_,qbrr,⟨qbhu,qbhv,qbhy⟩,(fun dvs h=>by simp only [List.mem_cons,List.not_mem_nil,or_false] at h; subst h; exact BindsV.nil qbrs)⟩⟩,⟨⟨_,_,qbrt,⟨qbij,qbik,qbin⟩,(fun dvs h=>by simp only [List.mem_cons,List.not_mem_nil,or_false] at h; subst h; exact BindsV.nil qbru)⟩⟩,⟨⟨_,_,qbrv,⟨qbiy,qbiz,qbjc⟩,(fun dvs h=>by simp only [List.mem_cons,List.not_mem_nil,or_false] at h; subst h; exact BindsV.nil qbrw)⟩⟩,⟨⟨_,_,qbrx,⟨qbjn,qbjo,qbjr⟩,(fun dvs h=>by simp only [List.mem_cons,List.not_mem_nil,or_false] at h; subst h; exact BindsV.nil qbry)⟩⟩,⟨⟨_,_,qbrz,⟨qbkc,qbkd,qbkg⟩,(fun dvs h=>by simp only [List.mem_cons,List.not_mem_nil,or_false] at h; subst h; exact BindsV.nil qbsa)⟩⟩,⟨⟨_,_,qbsb,⟨qbkr,qbks,qbkv⟩,(fun dvs h=>by simp only [List.mem_cons,List.not_mem_nil,or_false] at h; subst h; exact BindsV.nil qbsc)⟩⟩,⟨⟨_,_,qbsd,⟨qblg,qblh,qblk⟩,(fun dvs h=>by simp only [List.mem_cons,List.not_mem_nil,or_false] at h; subst h; exact BindsV.nil qbse)⟩⟩,⟨⟨_,_,qbsf,⟨qblv,qblw,qblz⟩,(fun dvs h=>by simp only [List.mem_cons,List.not_mem_nil,or_false] at h; subst h; exact BindsV.nil qbsg)⟩⟩,⟨⟨_,_,qbsh,⟨qbmk,qbml,qbmo⟩,(fun dvs h=>by simp only [List.mem_cons,List.not_mem_nil,or_false] at h; subst h; exact BindsV.nil qbsi)⟩⟩,⟨⟨_,_,qbsj,⟨qbmz,qbna,qbnd⟩,(fun dvs h=>by simp only [List.mem_cons,List.not_mem_nil,or_false] at h; subst h; exact BindsV.nil qbsk)⟩⟩,⟨⟨_,_,qbsl,⟨qbno,qbnp,qbns⟩,(fun dvs h=>by simp only [List.mem_cons,List.not_mem_nil,or_false] at h; subst h; exact BindsV.nil qbsm)⟩⟩,⟨⟨_,_,qbsn,⟨qbod,qboe,qboh⟩,(fun dvs h=>by simp only [List.mem_cons,List.not_mem_nil,or_false] at h; subst h; exact BindsV.nil qbso)⟩⟩⟩
  exact ⟨PySem.W.fnOf "law" "law" (zal s_law) (zak s_law) (zab s_law) .none qcq qcr qcs qp qct qcu,fun s v=>.of_eq rfl,fun base _ _=>zzv (zaw (st:=s_law) l17 c17 k17) T⟩
theorem walk {l:PySem.W.OpenLaw} {q:Program} {loose:List Str} {XP:(Str->Option Value)->Heap->Prop} {YP:World->Heap->Prop} {d:DefRec} {K:Params->PySem.W.Frag} (hn:l.most=some 63) (hdf:d.params.defaults = [])
    (hY:∀ (w:World) (h:Heap),YP w h->(K w.params).In h)
    (F:∀ (w:World) (mg:Str->Option Value) (fa:Addr) (h:Heap),(K w.params).In h->h.Ns mainGlobals mg->mg d.name=some (.ref fa) ->
      ∃ fd:FuncData,(∀ (s:Shared) (u:Value),BindsTo s fd ⟨[u],[]⟩ [("_law_script", u)])/\∀ base:Heap,(K w.params).In base->base.Ns mainGlobals mg->FnOk l.prog w (K w.params) mg base CX0 11 fa fd ["_law_script"] (spLaw (K w.params))) :
    PySem.W.WalkO q loose XP YP l.row.toRowW d [] (fun f vs=>PySem.call f vs) :=
  L2.walk_of (n:=63) (k:=11) (x := "_law_script") (CX:=fun _=>CX0) (sp:=fun w=>spLaw (K w.params)) hn (by decide) hdf ⟨rfl,by decide,by decide⟩ hY F (fun _ _ a ns hl _ hS=>⟨a,ns,rfl,hS,hl,fun _=>rfl⟩) fun _ _ _ _ _ z=>z
end K74
theorem PySem.W.Fast.te1359548647336293417 : True := trivial
theorem PySem.W.Fast.tw17040422897404840960 : True := trivial
theorem PySem.W.Fast.tw16488400687112865123 : True := trivial
theorem PySem.W.Fast.tw73352352927274360 : True := trivial
theorem PySem.W.Fast.tw14162016676173728057 : True := trivial
theorem PySem.W.Fast.tw3733894960571978580 : True := trivial
theorem PySem.W.Fast.tw10056755705708512656 : True := trivial
theorem PySem.W.Fast.tw4614282845848409991 : True := trivial
theorem PySem.W.Fast.tw7783647389329270989 : True := trivial
theorem PySem.W.Fast.tw412411190738232340 : True := trivial
theorem PySem.W.Fast.tw6010025286679233235 : True := trivial
theorem PySem.W.Fast.tw15668629497915599575 : True := trivial
theorem PySem.W.Fast.tw7584333861775524797 : True := trivial
theorem PySem.W.Fast.tw7583820765921452733 : True := trivial
theorem PySem.W.Fast.tw14388894783243043700 : True := trivial
theorem PySem.W.Fast.tw6494473104212308048 : True := trivial
theorem PySem.W.Fast.tw2528170840759689082 : True := trivial
theorem PySem.W.Fast.tw5658267181222708651 : True := trivial
theorem PySem.W.Fast.tw260103560273317077 : True := trivial
theorem PySem.W.Fast.tw2793298850288271304 : True := trivial
theorem PySem.W.Fast.tw1911405740355326075 : True := trivial
theorem PySem.W.Fast.tw10963329845280127445 : True := trivial
theorem PySem.W.Fast.tw11270873012756824485 : True := trivial
theorem PySem.W.Fast.tw8650738621750827860 : True := trivial
theorem PySem.W.Fast.tw3598032471630433156 : True := trivial
theorem PySem.W.Fast.tw17754909293447331219 : True := trivial
theorem PySem.W.Fast.tw910724666245494366 : True := trivial
theorem PySem.W.Fast.tw10887380990007609019 : True := trivial
theorem PySem.W.Fast.tw11138507797278549623 : True := trivial
theorem PySem.W.Fast.tw5067673271527941033 : True := trivial
theorem PySem.W.Fast.tw9171366573985516421 : True := trivial
theorem PySem.W.Fast.tw4703445206042412757 : True := trivial
theorem PySem.W.Fast.tw8242774249624642582 : True := trivial
theorem PySem.W.Fast.tw1468203149868031089 : True := trivial
theorem PySem.W.Fast.tw7193863777204318450 : True := trivial
theorem PySem.W.Fast.tw2233234700286127121 : True := trivial
theorem PySem.W.Fast.tw704986713641011261 : True := trivial
theorem PySem.W.Fast.tw450810706342502666 : True := trivial
theorem PySem.W.Fast.tw14505739360653322747 : True := trivial
theorem PySem.W.Fast.tw423746671527056765 : True := trivial
theorem PySem.W.Fast.tw15518005579809746367 : True := trivial
theorem PySem.W.Fast.tw257823694441885418 : True := trivial
theorem PySem.W.Fast.tw14072369885426032665 : True := trivial
theorem PySem.W.Fast.tw14510359429008564500 : True := trivial
theorem PySem.W.Fast.tw3597837593513595745 : True := trivial
theorem PySem.W.Fast.tw9072473418873731049 : True := trivial
theorem PySem.W.Fast.tw4095727441735522896 : True := trivial
theorem PySem.W.Fast.tw421908896883348397 : True := trivial
theorem PySem.W.Fast.tw15625130949350420550 : True := trivial
theorem PySem.W.Fast.tw12705640380035275911 : True := trivial
theorem PySem.W.Fast.tw15725744584887941357 : True := trivial
theorem PySem.W.Fast.tw9937292647776468326 : True := trivial
theorem PySem.W.Fast.tw234945471938138237 : True := trivial
theorem PySem.W.Fast.tw3530793896879613609 : True := trivial
theorem PySem.W.Fast.tw15897793335156380351 : True := trivial
theorem PySem.W.Fast.tw11013413890228006831 : True := trivial
theorem PySem.W.Fast.tw2488711828626177135 : True := trivial
theorem PySem.W.Fast.tw8259674123220014745 : True := trivial
theorem PySem.W.Fast.tw4549922093394691604 : True := trivial
theorem PySem.W.Fast.tw8001290419529051320 : True := trivial
theorem PySem.W.Fast.tw4498542404366251172 : True := trivial
theorem PySem.W.Fast.tw8599051120800947493 : True := trivial
theorem PySem.W.Fast.tw13705318764477305740 : True := trivial
theorem PySem.W.Fast.tw14203003581961078752 : True := trivial
theorem PySem.W.Fast.tw2657070419311275542 : True := trivial
theorem PySem.W.Fast.tw6887017536205148486 : True := trivial
theorem PySem.W.Fast.tw18171521858566316053 : True := trivial
theorem PySem.W.Fast.tw1170349197675592387 : True := trivial
theorem PySem.W.Fast.tw575043663079539202 : True := trivial
theorem PySem.W.Fast.tw5851629136633435612 : True := trivial
theorem PySem.W.Fast.tw18309454560251781456 : True := trivial
theorem PySem.W.Fast.tw12575018639573033494 : True := trivial
theorem PySem.W.Fast.tw10764446630748657760 : True := trivial
theorem PySem.W.Fast.tw4890415185182246563 : True := trivial
theorem PySem.W.Fast.tw8302779837705520829 : True := trivial
theorem PySem.W.Fast.tw13564856532329334382 : True := trivial
theorem PySem.W.Fast.tw17998136745497329656 : True := trivial
theorem PySem.W.Fast.tw1340907970999358881 : True := trivial
theorem PySem.W.Fast.tw300661878571069896 : True := trivial
theorem PySem.W.Fast.tw8704555611196034575 : True := trivial
theorem PySem.W.Fast.tw7935543690552528753 : True := trivial
theorem PySem.W.Fast.tw6317651939800323627 : True := trivial
open PySem PySem.W PyProof.Rows
set_option maxRecDepth 100000 in
set_option maxHeartbeats 0 in
theorem PySem.Challenge.cw_sharewheel_k74_whole_the_bound_is_come_t_holds : PySem.Challenge.rw_sharewheel_k74_whole_the_bound_is_come_t.Holds := by
  w_on; o_law; k_head; (case hw=>w_witness2)
  k_fill
  refine K74.walk (l:=PySem.Challenge.rw_sharewheel_k74_whole_the_bound_is_come_t) rfl rfl (fun w h Y=>PySem.W.kIn_of Y) ?F
  case F =>
    intro w mg fa h KX G hmg
    refine' K74.all_mk KX G hmg ?qdy ?qdz ?qea ?qeb ?qec ?qed ?qee ?qef ?qeg ?qeh ?qei ?qej ?qek ?qel ?qem ?qen ?qeo ?qep ?qeq ?qer ?qes ?qet ?qeu ?qev ?qew ?qex ?qey ?qez ?qfa ?qfb ?qfc ?qfd ?qfe ?qff ?qfg ?qfh ?qfi ?qfj ?qfk ?qfl ?qfm ?qfn ?qfo ?qfp ?qfq ?qfr ?qfs ?qft ?qfu ?qfv ?qfw ?qfx ?qfy ?qfz ?qga ?qgb ?qgc ?qgd ?qge ?qgf ?qgg ?qgh ?qgi ?qgj ?qgk ?qgl ?qgm ?qgn ?qgo ?qgp ?qgq ?qgr ?qgs ?qgt ?qgu ?qgv ?qgw ?qgx ?qgy ?qgz ?qha ?qhb ?qhc ?qhd ?qhe ?qhf ?qhg ?qhh ?qhi ?qhj ?qhk ?qhl ?qhm ?qhn ?qho ?qhp ?kg ?kt ?a1 ?l1 ?c1 ?k1 ?a2 ?l2 ?c2 ?k2 ?a3 ?l3 ?c3 ?k3 ?a4 ?l4 ?c4 ?k4 ?a5 ?l5 ?c5 ?k5 ?a6 ?l6 ?c6 ?k6 ?a7 ?l7 ?c7 ?k7 ?a8 ?l8 ?c8 ?k8 ?a9 ?l9 ?c9 ?k9 ?a10 ?l10 ?c10 ?k10 ?a11 ?l11 ?c11 ?k11 ?a12 ?l12 ?c12 ?k12 ?a13 ?l13 ?c13 ?k13 ?a14 ?l14 ?c14 ?k14 ?a15 ?l15 ?c15 ?k15 ?a16 ?l16 ?c16 ?k16 ?a17 ?l17 ?c17 ?k17 ?z1 ?z2 ?z3 ?z4 ?z5 ?z6 ?z7 ?z8 ?qhq ?qhr ?qhs ?qht ?qhu ?qhv ?qhw ?qhx ?qhy ?qia ?qib ?qic ?qid ?qie ?qif ?qig ?qih ?qis ?qit ?qiu ?qiv ?qiw ?qjh ?qji ?qjj ?qjk ?qjl ?qjw ?qjx ?qjy ?qjz ?qka ?qkl ?qkm ?qkn ?qko ?qkp ?qla ?qlb ?qlc ?qld ?qle ?qlg ?qli ?qlj ?qlk ?qll ?qlm ?qln ?qlo ?qlp ?qlq ?qlr ?qls ?qlt ?qlu ?qmf ?qmg ?qmh ?qmi ?qmj ?qmu ?qmv ?qmw ?qmx ?qmy ?qnj ?qnk ?qnl ?qnm ?qnn ?qny ?qnz ?qoa ?qob ?qoc ?qon ?qoo ?qop ?qoq ?qor ?qpc ?qpd ?qpe ?qpf ?qpg ?qph ?qpi ?qpj ?qpu ?qpv ?qpw ?qpx ?qpy ?qqj ?qqk ?qql ?qqm ?qqn ?qqy ?qqz ?qra ?qrb ?qrc ?qrn ?qro ?qrp ?qrq ?qrr ?qsc ?qsd ?qse ?qsf ?qsg ?qsi ?qsj ?qsk ?qsl ?qsm ?qsn ?qso ?qsp ?qsq ?qsr ?qss ?qst ?qsu ?qtf ?qtg ?qth ?qti ?qtj ?qtu ?qtv ?qtw ?qtx ?qty ?quj ?quk ?qul ?qum ?qun ?quy ?quz ?qva ?qvb ?qvc ?qvn ?qvo ?qvp ?qvq ?qvr ?qwc ?qwd ?qwe ?qwf ?qwg ?qwr ?qws ?qwt ?qwu ?qwv ?qxg ?qxh ?qxi ?qxj ?qxk ?qxl ?qxm ?qxn ?qxy ?qxz ?qya ?qyb ?qyc ?qyn ?qyo ?qyp ?qyq ?qyr ?qzc ?qzd ?qze ?qzf ?qzg ?qzr ?qzs ?qzt ?qzu ?qzv ?qbag ?qbah ?qbai ?qbaj ?qbak ?qbam ?qban ?qbao ?qbap ?qbaq ?qbar ?qbas ?qbat ?qbau ?qbav ?qbaw ?qbax ?qbbn ?qbbo ?qbbp ?qbbq ?qbbr ?qbbs ?qbcd ?qbce ?qbcf ?qbcg ?qbch ?qbcs ?qbct ?qbcu ?qbcv ?qbcw ?qbcy ?qbcz ?qbda ?qbdb ?qbdc ?qbdd ?qbde ?qbdf ?qbdg ?qbdh ?qbdi ?qbdj ?qbdk ?qbeb ?qbec ?qbed ?qbee ?qbef ?qbeg ?qber ?qbes ?qbet ?qbeu ?qbev ?qbfg ?qbfh ?qbfi ?qbfj ?qbfk ?qbfv ?qbfw ?qbfx ?qbfy ?qbfz ?qbgp ?qbgq ?qbgr ?qbgs ?qbgt ?qbgu ?qbhf ?qbhg ?qbhh ?qbhi ?qbhj ?qbhu ?qbhv ?qbhw ?qbhx ?qbhy ?qbij ?qbik ?qbil ?qbim ?qbin ?qbiy ?qbiz ?qbja ?qbjb ?qbjc ?qbjn ?qbjo ?qbjp ?qbjq ?qbjr ?qbkc ?qbkd ?qbke ?qbkf ?qbkg ?qbkr ?qbks ?qbkt ?qbku ?qbkv ?qblg ?qblh ?qbli ?qblj ?qblk ?qblv ?qblw ?qblx ?qbly ?qblz ?qbmk ?qbml ?qbmm ?qbmn ?qbmo ?qbmz ?qbna ?qbnb ?qbnc ?qbnd ?qbno ?qbnp ?qbnq ?qbnr ?qbns ?qbod ?qboe ?qbof ?qbog ?qboh
    (case qdy=>k_is)
    (case qdz=>k_is)
    (case qea=>k_is)
    (case qeb=>k_is)
    (case qec=>k_is)
    (case qed=>k_is)
    (case qee=>k_is)
    (case qef=>k_is)
    (case qeg=>k_is)
    (case qeh=>k_is)
    (case qei=>k_is)
    (case qej=>k_exc)
    (case qek=>k_is)
    (case qel=>k_is)
    (case qem=>k_is)
    (case qen=>k_is)
    (case qeo=>k_is)
    (case qep=>k_is)
    (case qeq=>k_is)
    (case qer=>k_is)
    (case qes=>k_is)
    (case qet=>k_is)
    (case qeu=>k_is)
    (case qev=>k_exc)
    (case qew=>k_is)
    (case qex=>k_is)
    (case qey=>k_is)
    (case qez=>k_is)
    (case qfa=>k_is)
    (case qfb=>k_is)
    (case qfc=>k_is)
    (case qfd=>k_is)
    (case qfe=>k_is)
    (case qff=>k_is)
    (case qfg=>k_is)
    (case qfh=>k_exc)
    (case qfi=>k_is)
    (case qfj=>k_is)
    (case qfk=>k_is)
    (case qfl=>k_is)
    (case qfm=>k_is)
    (case qfn=>k_is)
    (case qfo=>k_is)
    (case qfp=>k_is)
    (case qfq=>k_is)
    (case qfr=>k_is)
    (case qfs=>k_is)
    (case qft=>k_exc)
    (case qfu=>k_is)
    (case qfv=>k_is)
    (case qfw=>k_is)
    (case qfx=>k_is)
    (case qfy=>k_is)
    (case qfz=>k_is)
    (case qga=>k_is)
    (case qgb=>k_is)
    (case qgc=>k_is)
    (case qgd=>k_is)
    (case qge=>k_is)
    (case qgf=>k_exc)
    (case qgg=>k_is)
    (case qgh=>k_is)
    (case qgi=>k_is)
    (case qgj=>k_is)
    (case qgk=>k_is)
    (case qgl=>k_is)
    (case qgm=>k_is)
    (case qgn=>k_is)
    (case qgo=>k_is)
    (case qgp=>k_is)
    (case qgq=>k_is)
    (case qgr=>k_exc)
    (case qgs=>k_is)
    (case qgt=>k_is)
    (case qgu=>k_is)
    (case qgv=>k_is)
    (case qgw=>k_is)
    (case qgx=>k_is)
    (case qgy=>k_is)
    (case qgz=>k_is)
    (case qha=>k_is)
    (case qhb=>k_is)
    (case qhc=>k_is)
    (case qhd=>k_exc)
    (case qhe=>k_is)
    (case qhf=>k_is)
    (case qhg=>k_is)
    (case qhh=>k_is)
    (case qhi=>k_is)
    (case qhj=>k_is)
    (case qhk=>k_is)
    (case qhl=>k_is)
    (case qhm=>k_is)
    (case qhn=>k_is)
    (case qho=>k_is)
    (case qhp=>k_exc)
    (case kg=>k_is)
    (case kt=>k_is)
    (case a1=>k_is)
    (case l1=>k_is)
    (case c1=>k_is)
    (case k1=>k_is)
    (case a2=>k_is)
    (case l2=>k_is)
    (case c2=>k_is)
    (case k2=>k_is)
    (case a3=>k_is)
    (case l3=>k_is)
    (case c3=>k_is)
    (case k3=>k_is)
    (case a4=>k_is)
    (case l4=>k_is)
    (case c4=>k_is)
    (case k4=>k_is)
    (case a5=>k_is)
    (case l5=>k_is)
    (case c5=>k_is)
    (case k5=>k_is)
    (case a6=>k_is)
    (case l6=>k_is)
    (case c6=>k_is)
    (case k6=>k_is)
    (case a7=>k_is)
    (case l7=>k_is)
    (case c7=>k_is)
    (case k7=>k_is)
    (case a8=>k_is)
    (case l8=>k_is)
    (case c8=>k_is)
    (case k8=>k_is)
    (case a9=>k_is)
    (case l9=>k_is)
    (case c9=>k_is)
    (case k9=>k_is)
    (case a10=>k_is)
    (case l10=>k_is)
    (case c10=>k_is)
    (case k10=>k_is)
    (case a11=>k_is)
    (case l11=>k_is)
    (case c11=>k_is)
    (case k11=>k_is)
    (case a12=>k_is)
    (case l12=>k_is)
    (case c12=>k_is)
    (case k12=>k_is)
    (case a13=>k_is)
    (case l13=>k_is)
    (case c13=>k_is)
    (case k13=>k_is)
    (case a14=>k_is)
    (case l14=>k_is)
    (case c14=>k_is)
    (case k14=>k_is)
    (case a15=>k_is)
    (case l15=>k_is)
    (case c15=>k_is)
    (case k15=>k_is)
    (case a16=>k_is)
    (case l16=>k_is)
    (case c16=>k_is)
    (case k16=>k_is)
    (case a17=>k_is)
    (case l17=>k_is)
    (case c17=>k_is)
    (case k17=>k_is)
    (case z1=>k_is)
    (case z2=>k_is)
    (case z3=>k_is)
    (case z4=>k_is)
    (case z5=>k_is)
    (case z6=>k_is)
    (case z7=>k_is)
    (case z8=>k_is)
    (case qhq=>k_is)
    (case qhr=>k_is)
    (case qhs=>k_is)
    (case qht=>k_is)
    (case qhu=>k_is)
    (case qhv=>k_is)
    (case qhw=>k_is)
    (case qhx=>k_is)
    (case qhy=>k_is)
    (case qia=>k_is)
    (case qib=>k_is)
    (case qic=>k_is)
    (case qid=>k_is)
    (case qie=>k_is)
    (case qif=>k_is)
    (case qig=>k_is)
    (case qih=>k_is)
    (case qis=>k_is)
    (case qit=>k_is)
    (case qiu=>k_is)
    (case qiv=>k_is)
    (case qiw=>k_is)
    (case qjh=>k_is)
    (case qji=>k_is)
    (case qjj=>k_is)
    (case qjk=>k_is)
    (case qjl=>k_is)
    (case qjw=>k_is)
    (case qjx=>k_is)
    (case qjy=>k_is)
    (case qjz=>k_is)
    (case qka=>k_is)
    (case qkl=>k_is)
    (case qkm=>k_is)
    (case qkn=>k_is)
    (case qko=>k_is)
    (case qkp=>k_is)
    (case qla=>k_is)
    (case qlb=>k_is)
    (case qlc=>k_is)
    (case qld=>k_is)
    (case qle=>k_is)
    (case qlg=>k_is)
    (case qli=>k_is)
    (case qlj=>k_is)
    (case qlk=>k_is)
    (case qll=>k_is)
    (case qlm=>k_is)
    (case qln=>k_is)
    (case qlo=>k_is)
    (case qlp=>k_is)
    (case qlq=>k_is)
    (case qlr=>k_is)
    (case qls=>k_is)
    (case qlt=>k_is)
    (case qlu=>k_is)
    (case qmf=>k_is)
    (case qmg=>k_is)
    (case qmh=>k_is)
    (case qmi=>k_is)
    (case qmj=>k_is)
    (case qmu=>k_is)
    (case qmv=>k_is)
    (case qmw=>k_is)
    (case qmx=>k_is)
    (case qmy=>k_is)
    (case qnj=>k_is)
    (case qnk=>k_is)
    (case qnl=>k_is)
    (case qnm=>k_is)
    (case qnn=>k_is)
    (case qny=>k_is)
    (case qnz=>k_is)
    (case qoa=>k_is)
    (case qob=>k_is)
    (case qoc=>k_is)
    (case qon=>k_is)
    (case qoo=>k_is)
    (case qop=>k_is)
    (case qoq=>k_is)
    (case qor=>k_is)
    (case qpc=>k_is)
    (case qpd=>k_is)
    (case qpe=>k_is)
    (case qpf=>k_is)
    (case qpg=>k_is)
    (case qph=>k_is)
    (case qpi=>k_is)
    (case qpj=>k_is)
    (case qpu=>k_is)
    (case qpv=>k_is)
    (case qpw=>k_is)
    (case qpx=>k_is)
    (case qpy=>k_is)
    (case qqj=>k_is)
    (case qqk=>k_is)
    (case qql=>k_is)
    (case qqm=>k_is)
    (case qqn=>k_is)
    (case qqy=>k_is)
    (case qqz=>k_is)
    (case qra=>k_is)
    (case qrb=>k_is)
    (case qrc=>k_is)
    (case qrn=>k_is)
    (case qro=>k_is)
    (case qrp=>k_is)
    (case qrq=>k_is)
    (case qrr=>k_is)
    (case qsc=>k_is)
    (case qsd=>k_is)
    (case qse=>k_is)
    (case qsf=>k_is)
    (case qsg=>k_is)
    (case qsi=>k_is)
    (case qsj=>k_is)
    (case qsk=>k_is)
    (case qsl=>k_is)
    (case qsm=>k_is)
    (case qsn=>k_is)
    (case qso=>k_is)
    (case qsp=>k_is)
    (case qsq=>k_is)
    (case qsr=>k_is)
    (case qss=>k_is)
    (case qst=>k_is)
    (case qsu=>k_is)
    (case qtf=>k_is)
    (case qtg=>k_is)
    (case qth=>k_is)
    (case qti=>k_is)
    (case qtj=>k_is)
    (case qtu=>k_is)
    (case qtv=>k_is)
    (case qtw=>k_is)
    (case qtx=>k_is)
    (case qty=>k_is)
    (case quj=>k_is)
    (case quk=>k_is)
    (case qul=>k_is)
    (case qum=>k_is)
    (case qun=>k_is)
    (case quy=>k_is)
    (case quz=>k_is)
    (case qva=>k_is)
    (case qvb=>k_is)
    (case qvc=>k_is)
    (case qvn=>k_is)
    (case qvo=>k_is)
    (case qvp=>k_is)
    (case qvq=>k_is)
    (case qvr=>k_is)
    (case qwc=>k_is)
    (case qwd=>k_is)
    (case qwe=>k_is)
    (case qwf=>k_is)
    (case qwg=>k_is)
    (case qwr=>k_is)
    (case qws=>k_is)
    (case qwt=>k_is)
    (case qwu=>k_is)
    (case qwv=>k_is)
    (case qxg=>k_is)
    (case qxh=>k_is)
    (case qxi=>k_is)
    (case qxj=>k_is)
    (case qxk=>k_is)
    (case qxl=>k_is)
    (case qxm=>k_is)
    (case qxn=>k_is)
    (case qxy=>k_is)
    (case qxz=>k_is)
    (case qya=>k_is)
    (case qyb=>k_is)
    (case qyc=>k_is)
    (case qyn=>k_is)
    (case qyo=>k_is)
    (case qyp=>k_is)
    (case qyq=>k_is)
    (case qyr=>k_is)
    (case qzc=>k_is)
    (case qzd=>k_is)
    (case qze=>k_is)
    (case qzf=>k_is)
    (case qzg=>k_is)
    (case qzr=>k_is)
    (case qzs=>k_is)
    (case qzt=>k_is)
    (case qzu=>k_is)
    (case qzv=>k_is)
    (case qbag=>k_is)
    (case qbah=>k_is)
    (case qbai=>k_is)
    (case qbaj=>k_is)
    (case qbak=>k_is)
    (case qbam=>k_is)
    (case qban=>k_is)
    (case qbao=>k_is)
    (case qbap=>k_is)
    (case qbaq=>k_is)
    (case qbar=>k_is)
    (case qbas=>k_is)
    (case qbat=>k_is)
    (case qbau=>k_is)
    (case qbav=>k_is)
    (case qbaw=>k_is)
    (case qbax=>k_is)
    (case qbbn=>k_is)
    (case qbbo=>k_is)
    (case qbbp=>k_is)
    (case qbbq=>k_is)
    (case qbbr=>k_is)
    (case qbbs=>k_is)
    (case qbcd=>k_is)
    (case qbce=>k_is)
    (case qbcf=>k_is)
    (case qbcg=>k_is)
    (case qbch=>k_is)
    (case qbcs=>k_is)
    (case qbct=>k_is)
    (case qbcu=>k_is)
    (case qbcv=>k_is)
    (case qbcw=>k_is)
    (case qbcy=>k_is)
    (case qbcz=>k_is)
    (case qbda=>k_is)
    (case qbdb=>k_is)
    (case qbdc=>k_is)
    (case qbdd=>k_is)
    (case qbde=>k_is)
    (case qbdf=>k_is)
    (case qbdg=>k_is)
    (case qbdh=>k_is)
    (case qbdi=>k_is)
    (case qbdj=>k_is)
    (case qbdk=>k_is)
    (case qbeb=>k_is)
    (case qbec=>k_is)
    (case qbed=>k_is)
    (case qbee=>k_is)
    (case qbef=>k_is)
    (case qbeg=>k_is)
    (case qber=>k_is)
    (case qbes=>k_is)
    (case qbet=>k_is)
    (case qbeu=>k_is)
    (case qbev=>k_is)
    (case qbfg=>k_is)
    (case qbfh=>k_is)
    (case qbfi=>k_is)
    (case qbfj=>k_is)
    (case qbfk=>k_is)
    (case qbfv=>k_is)
    (case qbfw=>k_is)
    (case qbfx=>k_is)
    (case qbfy=>k_is)
    (case qbfz=>k_is)
    (case qbgp=>k_is)
    (case qbgq=>k_is)
    (case qbgr=>k_is)
    (case qbgs=>k_is)
    (case qbgt=>k_is)
    (case qbgu=>k_is)
    (case qbhf=>k_is)
    (case qbhg=>k_is)
    (case qbhh=>k_is)
    (case qbhi=>k_is)
    (case qbhj=>k_is)
    (case qbhu=>k_is)
    (case qbhv=>k_is)
    (case qbhw=>k_is)
    (case qbhx=>k_is)
    (case qbhy=>k_is)
    (case qbij=>k_is)
    (case qbik=>k_is)
    (case qbil=>k_is)
    (case qbim=>k_is)
    (case qbin=>k_is)
    (case qbiy=>k_is)
    (case qbiz=>k_is)
    (case qbja=>k_is)
    (case qbjb=>k_is)
    (case qbjc=>k_is)
    (case qbjn=>k_is)
    (case qbjo=>k_is)
    (case qbjp=>k_is)
    (case qbjq=>k_is)
    (case qbjr=>k_is)
    (case qbkc=>k_is)
    (case qbkd=>k_is)
    (case qbke=>k_is)
    (case qbkf=>k_is)
    (case qbkg=>k_is)
    (case qbkr=>k_is)
    (case qbks=>k_is)
    (case qbkt=>k_is)
    (case qbku=>k_is)
    (case qbkv=>k_is)
    (case qblg=>k_is)
    (case qblh=>k_is)
    (case qbli=>k_is)
    (case qblj=>k_is)
    (case qblk=>k_is)
    (case qblv=>k_is)
    (case qblw=>k_is)
    (case qblx=>k_is)
    (case qbly=>k_is)
    (case qblz=>k_is)
    (case qbmk=>k_is)
    (case qbml=>k_is)
    (case qbmm=>k_is)
    (case qbmn=>k_is)
    (case qbmo=>k_is)
    (case qbmz=>k_is)
    (case qbna=>k_is)
    (case qbnb=>k_is)
    (case qbnc=>k_is)
    (case qbnd=>k_is)
    (case qbno=>k_is)
    (case qbnp=>k_is)
    (case qbnq=>k_is)
    (case qbnr=>k_is)
    (case qbns=>k_is)
    (case qbod=>k_is)
    (case qboe=>k_is)
    (case qbof=>k_is)
    (case qbog=>k_is)
    (case qboh=>k_is)
