import PyProof.Rows.All
import Wide.All
import OpenK.AllK
import Wide.FinOn
import Lean
import PyProof.EqAt
import PyProof.EqKinds
import PyProof.TupleCall
import PySem.Challenge.RW_sharewheel_k61_who_is_put_in
set_option Elab.async false
set_option linter.all false
set_option maxRecDepth 100000
namespace L2
open PySem PySem.Spec PyProof.Rows
abbrev Key:=Sum Int Str
def keyIs:Key->Value->Bool
 | .inl k,v=>Value.isInt k v
 | .inr x,v=>Value.isStrOf x v
def keyH (w:World):Key->Int
 | .inl k=>hashInt k
 | .inr x=>hashStr w x
theorem zbw:∀ {k:Key} {v:Value},keyIs k v=true->(∃ i t,k=Sum.inl i/\v=Value.int i t)\/(∃ x t,k=Sum.inr x/\v=Value.str x t)
 | .inl i,v,h=>by
  obtain ⟨t,e⟩:=Value.isInt_shape (k:=i) (v:=v) h
  exact .inl ⟨i,t,rfl,e⟩
 | .inr x,v,h=>by
  obtain ⟨t,e⟩:=Value.isStrOf_shape (x:=x) (v:=v) h
  exact .inr ⟨x,t,rfl,e⟩
theorem znk (i:Int) (t:Tok):keyIs (.inl i) (.int i t)=true:=by simp [keyIs,Value.isInt]
theorem znl (x:Str) (t:Tok):keyIs (.inr x) (.str x t)=true:=by simp [keyIs,Value.isStrOf]
theorem ztd (a b:Int):decide ((Sum.inl a:Key)=Sum.inl b)=(a == b):=by
 by_cases e:a=b
 ·subst e; simp
 ·have h:¬ (Sum.inl a:Key)=Sum.inl b:=fun q=>e (Sum.inl.inj q)
  rw [decide_eq_false h]
  exact (beq_eq_false_iff_ne.mpr e).symm
theorem zte (a b:Str):decide ((Sum.inr a:Key)=Sum.inr b)=decide (a=b):=by
 by_cases e:a=b
 ·subst e; simp
 ·have h:¬ (Sum.inr a:Key)=Sum.inr b:=fun q=>e (Sum.inr.inj q)
  rw [decide_eq_false h,decide_eq_false e]
theorem ztf (a:Int) (b:Str):decide ((Sum.inl a:Key)=Sum.inr b)=false:=decide_eq_false (fun q=>nomatch q)
theorem ztg (a:Str) (b:Int):decide ((Sum.inr a:Key)=Sum.inl b)=false:=decide_eq_false (fun q=>nomatch q)
def zbe (prog:Program) (w:World):PySem.KeyKind prog w Key where
 is:=keyIs
 hash:=keyH w
 inj:=fun v a b ha hb=>by
  rcases zbw ha with ⟨i,t,rfl,rfl⟩ | ⟨x,t,rfl,rfl⟩
  ·rcases zbw hb with ⟨j,u,rfl,e⟩ | ⟨y,u,rfl,e⟩
   ·injection e with e1 _; rw [e1]
   ·exact nomatch e
  ·rcases zbw hb with ⟨j,u,rfl,e⟩ | ⟨y,u,rfl,e⟩
   ·exact nomatch e
   ·injection e with e1 _; rw [e1]
 byValue:=fun k v h=>by
  rcases zbw h with ⟨i,t,rfl,rfl⟩ | ⟨x,t,rfl,rfl⟩ <;> rfl
 pyHash:=fun hv h=>by
  rcases zbw hv with ⟨i,t,rfl,rfl⟩ | ⟨x,t,rfl,rfl⟩
  ·exact wpAny_pyHash_int h
  ·exact wpAny_pyHash_str h
 eqBool:=fun hu hv h=>by
  rcases zbw hu with ⟨i,t,rfl,rfl⟩ | ⟨x,t,rfl,rfl⟩
  ·rcases zbw hv with ⟨j,u,rfl,rfl⟩ | ⟨y,u,rfl,rfl⟩
   ·rw [ztd] at h; exact wpAny_eqBool_int h
   ·rw [ztf] at h; exact SeqAt.EqAt.int_str i t y u _ _ _ _ h
  ·rcases zbw hv with ⟨j,u,rfl,rfl⟩ | ⟨y,u,rfl,rfl⟩
   ·rw [ztg] at h; exact SeqAt.EqAt.str_int x t j u _ _ _ _ h
   ·rw [zte] at h; exact wpAny_eqBool_str h
 «strs»:=fun k x t v h=>by
  rcases zbw h with ⟨i,u,rfl,e⟩ | ⟨y,u,rfl,e⟩
  ·exact nomatch e
  ·injection e with e1 _
   subst e1
   cases v <;> rfl
theorem zkx (prog:Program) (w:World) (i:Int) (t:Tok):(zbe prog w).is (.inl i) (.int i t)=true:=znk i t
theorem zky (prog:Program) (w:World) (x:Str) (t:Tok):(zbe prog w).is (.inr x) (.str x t)=true:=znl x t
end L2
namespace L2
open PySem PySem.Spec PyProof.Rows
inductive V where
 | non | bl (b:Bool) | int (i:Int) | str (x:Str) | byt (b:Array UInt8) | flt (b:UInt64) | ref (a:Addr) | ty (n:String)
 deriving DecidableEq
def RelV:V->Value->Prop
 | .non,u=>u=Value.none
 | .bl b,u=>u=Value.bool b
 | .int i,u=>∃ t,u=Value.int i t
 | .str x,u=>∃ t,u=Value.str x t
 | .byt b,u=>∃ t,u=Value.bytes b t
 | .flt b,u=>∃ t,u=Value.float b t
 | .ref a,u=>u=Value.ref a
 | .ty n,u=>u=Value.type n
abbrev Vals:List V->List Value->Prop:=Paired RelV
theorem Vals.length {xs:List V} {us:List Value} (r:Vals xs us):xs.length=us.length:=Paired.length r
theorem Vals.get:∀ {xs:List V} {us:List Value} {i:Nat} {x:V},Vals xs us->xs[i]? = some x->∃ u,us[i]? = some u/\RelV x u
 | _,_,_,_,.nil,e=>by simp at e
 | _,_,0,_,.cons r _,e=>by simp at e; subst e; exact ⟨_,rfl,r⟩
 | _,_,i+1,x,.cons _ t,e=>by
  obtain ⟨u,h1,h2⟩:=Vals.get (i:=i) (x:=x) t (by simpa using e)
  exact ⟨u,by simpa using h1,h2⟩
theorem Vals.append:∀ {xs ys:List V} {us ws:List Value},Vals xs us->Vals ys ws->Vals (xs++ys) (us++ws)
 | _,_,_,_,.nil,s=>s
 | _,_,_,_,.cons r t,s=>.cons r (Vals.append t s)
theorem Vals.take:∀ {xs:List V} {us:List Value} (n:Nat),Vals xs us->Vals (xs.take n) (us.take n)
 | _,_,0,_=>.nil
 | _,_,_ + 1,.nil=>.nil
 | _,_,n+1,.cons r t=>.cons r (Vals.take n t)
theorem Vals.drop:∀ {xs:List V} {us:List Value} (n:Nat),Vals xs us->Vals (xs.drop n) (us.drop n)
 | _,_,0,r=>r
 | _,_,_ + 1,.nil=>.nil
 | _,_,n+1,.cons _ t=>Vals.drop n t
def RelO:Option V->Option Value->Prop
 | some v,some u=>RelV v u
 | none,none=>True
 | _,_=>False
def KV {κ:Type}:List (κ×V)->List (κ×Value)->Prop:=Paired fun (p:κ×V) (q:κ×Value)=>p.1=q.1/\RelV p.2 q.2
def kV:Key->V
 | .inl i=>.int i
 | .inr x=>.str x
inductive HO where
 | lst (xs:List V)
 | tup (xs:List V)
 | dK (kvs:List (Key×V)) | dT (kvs:List (List Key×V))
 | set (S:Int->Bool) (n:Nat)
 | ins (C dx:Addr) (fs:List (Str×V))
 | own (x:Addr)
 | xd (fs:List (Str×V))
 | met (f x:Addr)
 | rng (lo hi:Int)
 | frz (o:Obj) (u:HO)
 | tbl (ps:Array Value)
 | ext (φ:Heap->Prop)
abbrev Hp:=Addr->Option HO
def upd (H:Hp) (a:Addr) (o:HO):Hp:=fun b=>if b=a then some o else H b
theorem zab {H:Hp} {a:Addr} {o:HO}:upd H a o a=some o:=by unfold upd; rw [if_pos rfl]
theorem zah {H:Hp} {a b:Addr} {o:HO} (h:b≠a):upd H a o b=H b:=by unfold upd; rw [if_neg h]
theorem zec {H:Hp} {a:Addr} {o u:HO}:upd (upd H a o) a u=upd H a u:=by
 funext b; unfold upd; split <;> rfl
theorem ne_of {H:Hp} {a b:Addr} {o u:HO} (h:H a=some o) (h':H b=some u) (d:o≠u):a≠b:=by
 intro e; subst e; rw [h] at h'; exact d (Option.some.inj h')
theorem zan {H:Hp} {a b:Addr} {o:HO} (h:H a=some o) (h':H b=none):a≠b:=by
 intro e; subst e; rw [h] at h'; cases h'
section
variable (P:Program) (w:World)
def ObjOk (H:Hp) (h:Heap) (a:Addr):HO->Prop
  | .lst xs=>xs.length<=sizeLine/\∃ (its:List Value) (n:Nat),Vals xs its/\h.get? a=some { cls:=.type "list", data:=.seq its.toArray n }
  | .tup xs=>xs.length<=sizeLine/\∃ its:List Value,Vals xs its/\IsTup h a its.toArray
  | .dK kvs=>kvs.length<=sizeLine/\(a == sysModules)=false/\∃ vs,KV kvs vs/\h.DictOf (zbe P w) a vs
  | .dT kvs=>kvs.length<=sizeLine/\(a == sysModules)=false/\∃ xs:List (List Key×Addr×Value),
      Paired (fun (p:List Key×V) (q:List Key×Addr×Value)=>p.1=q.1/\H q.2.1=some (.tup (p.1.map kV))/\RelV p.2 q.2.2) kvs xs /\
      ∃ o es ep,h.get? a=some o/\o.ExactDict/\o.data = .dict es ep/\es.toList=xs.map (entryOfKey (tupleKind (zbe P w)))/\(xs.map (·.1)).Nodup
  | .set S n=>h.SetOf (intKind P w) a S n
  | .ins C dx fs=>H dx=some (.own a)/\fs.length<=1000/\dx≠a/\h.get? a=some (PySem.W.instObj C dx) /\
      ∃ mA,h.Ns1 dx mA/\(∀ f,RelO (fs.lookup f) (mA f))/\PySem.Within mA (fs.map (·.1))
  | .own _=>∃ o,h.get? a=some o
  | .xd fs=>∃ mA,h.Ns1 a mA/\∀ f,RelO (fs.lookup f) (mA f)
  | .rng lo hi=>∃ t u v,h.get? a=some { cls:=.type "range", data:=.fields #[.int lo t,.int hi u,.int 1 v] }
  | .frz o u=>h.get? a=some o/\ObjOk H h a u
  | .tbl ps=>h.get? a=some { cls:=.none,data:=.fields ps }
  | .met f x=>h.get? a=some (PySem.W.methodObj (.ref f) (.ref x))
  | .ext φ=>φ h/\(∃ o,h.get? a=some o)/\∀ h1 h2:Heap,φ h1->(∀ o,h1.get? a=some o->h2.get? a=some o)->φ h2
def HOk (H:Hp) (h:Heap):Prop:=∀ a o,H a=some o->ObjOk P w H h a o
end
section
variable {P:Program} {w:World} {H H':Hp} {h h':Heap} {a:Addr} {o:HO}
theorem ObjOk.lt (x:ObjOk P w H h a o):a<h.objs.size:=by
 cases o with
 | lst xs=>obtain ⟨_,_,_,_,e⟩:=x; exact Heap.lt_size e
 | tup xs=>obtain ⟨_,_,_,p⟩:=x; exact p.lt
 | dK kvs=>obtain ⟨_,_,_,_,o,_,_,e,_⟩:=x; exact Heap.lt_size e
 | dT kvs=>obtain ⟨_,_,_,_,o,_,_,e,_⟩:=x; exact Heap.lt_size e
 | set S n=>obtain ⟨o,_,_,_,e,_⟩:=x; exact Heap.lt_size e
 | ins C dx fs=>obtain ⟨_,_,_,e,_⟩:=x; exact Heap.lt_size e
 | own y=>obtain ⟨_,e⟩:=x; exact Heap.lt_size e
 | xd fs=>obtain ⟨_,⟨_,_,_,e,_⟩,_⟩:=x; exact Heap.lt_size e
 | rng lo hi=>obtain ⟨_,_,_,e⟩:=x; exact Heap.lt_size e
 | frz ob u=>obtain ⟨e,_⟩:=x; exact Heap.lt_size e
 | tbl ps=>exact Heap.lt_size (show h.get? a=some _ from x)
 | met f y=>exact Heap.lt_size (show h.get? a=some _ from x)
 | ext φ=>obtain ⟨_,⟨_,e⟩,_⟩:=x; exact Heap.lt_size e
theorem Paired.mapP {α β:Type} {F G:α->β->Prop}:∀ {l₁:List α} {l₂:List β},Paired F l₁ l₂->(∀ a b,F a b->G a b)->Paired G l₁ l₂
 | _,_,.nil,_=>.nil
 | _,_,.cons r t,f=>.cons (f _ _ r) (Paired.mapP t f)
theorem ObjOk.stay (x:ObjOk P w H h a o) (k:∀ b u,(b=a\/H b=some (.own a))->h.get? b=some u->h'.get? b=some u)
    (ho:∀ b,H b=some (.own a)->H' b=some (.own a)) (ht:∀ b xs,H b=some (.tup xs)->H' b=some (.tup xs)):ObjOk P w H' h' a o:=by
  induction o with
  | lst xs=>obtain ⟨z,its,n,r,e⟩:=x; exact ⟨z,its,n,r,k _ _ (.inl rfl) e⟩
  | tup xs=>obtain ⟨z,its,r,ob,e,c⟩:=x; exact ⟨z,its,r,ob,k _ _ (.inl rfl) e,c⟩
  | dK kvs=>obtain ⟨z,y,vs,r,ob,es,ep,e,c⟩:=x; exact ⟨z,y,vs,r,ob,es,ep,k _ _ (.inl rfl) e,c⟩
  | dT kvs =>
    obtain ⟨z,y,xs,r,ob,es,ep,e,c⟩:=x
    exact ⟨z,y,xs,Paired.mapP r fun p q z=>⟨z.1,ht _ _ z.2.1,z.2.2⟩,ob,es,ep,k _ _ (.inl rfl) e,c⟩
  | set S n=>obtain ⟨ob,es,ep,t,e,c⟩:=x; exact ⟨ob,es,ep,t,k _ _ (.inl rfl) e,c⟩
  | ins C dx fs =>
    obtain ⟨d,z,ne,e,mA,⟨od,es,ep,e2,c⟩,r⟩:=x
    exact ⟨ho _ d,z,ne,k _ _ (.inl rfl) e,mA,⟨od,es,ep,k _ _ (.inr d) e2,c⟩,r⟩
  | own y=>obtain ⟨ob,e⟩:=x; exact ⟨ob,k _ _ (.inl rfl) e⟩
  | xd fs=>obtain ⟨mA,⟨od,es,ep,e,c⟩,r⟩:=x; exact ⟨mA,⟨od,es,ep,k _ _ (.inl rfl) e,c⟩,r⟩
  | rng lo hi=>obtain ⟨t,u,v,e⟩:=x; exact ⟨t,u,v,k _ _ (.inl rfl) e⟩
  | frz ob u ih=>obtain ⟨e,q⟩:=x; exact ⟨k _ _ (.inl rfl) e,ih q⟩
  | tbl ps =>
    have e:h.get? a=some { cls:=.none,data:=.fields ps }:=x
    show h'.get? a=some { cls:=.none,data:=.fields ps }
    exact k a _ (.inl rfl) e
  | met f y =>
    have e:h.get? a=some (PySem.W.methodObj (.ref f) (.ref y)):=x
    show h'.get? a=some (PySem.W.methodObj (.ref f) (.ref y))
    exact k a _ (.inl rfl) e
  | ext φ=>obtain ⟨p,⟨o,e⟩,st⟩:=x; exact ⟨st _ _ p fun o q=>k _ _ (.inl rfl) q,⟨o,k _ _ (.inl rfl) e⟩,st⟩
theorem HOk.lt (x:HOk P w H h) (e:H a=some o):a<h.objs.size:=(x a o e).lt
theorem HOk.fresh (x:HOk P w H h) (e:h.objs.size<=a):H a=none:=by
 cases q:H a with
 | none=>rfl
 | some u=>exact absurd (Nat.lt_of_lt_of_le (x.lt q) e) (Nat.lt_irrefl _)
theorem HOk.kept (x:HOk P w H h) (k:∀ b u,h.get? b=some u->h'.get? b=some u):HOk P w H h':=fun a o e =>
 (x a o e).stay (fun b u _ q=>k b u q) (fun _ q=>q) fun _ _ q=>q
theorem HOk.laid (x:HOk P w H h) (k:∀ b u,h.get? b=some u->h'.get? b=some u) (hp:h.objs.size<=a) (new:ObjOk P w (upd H a o) h' a o):HOk P w (upd H a o) h':=fun b u e=>by
 have hn:=x.fresh hp
 by_cases hb:b=a
 ·subst hb; rw [zab] at e; cases e; exact new
 ·rw [zah hb] at e
  exact (x b u e).stay (fun c v _ q=>k c v q) (fun c q=>by rw [zah (zan q hn)]; exact q) fun c xs q=>by rw [zah (zan q hn)]; exact q
end
def Rd (H:Hp) (a:Addr) (u:HO):Prop:=H a=some u\/∃ o,H a=some (.frz o u)
theorem Rd.ok {P:Program} {w:World} {H:Hp} {h:Heap} {a:Addr} {u:HO} (r:Rd H a u) (x:HOk P w H h):ObjOk P w H h a u:=by
 rcases r with r | ⟨o,r⟩
 ·exact x a u r
 ·obtain ⟨_,q⟩:=x a _ r
  exact q
def Mut:Option HO->Prop
 | some (.lst _)=>True
 | some (.dK _)=>True
 | some (.dT _)=>True
 | some (.set _ _)=>True
 | some (.ins _ _ _)=>True
 | some (.ext _)=>True
 | _=>False
section
variable {P:Program} {w:World} {H:Hp} {h h':Heap} {x e:Addr} {o':HO}
theorem HOk.write (ok:HOk P w H h) (mu:Mut (H x)) (he:e=x\/H e=some (.own x)) (k:∀ b u,b≠e->h.get? b=some u->h'.get? b=some u) (heo:∃ u,h'.get? e=some u)
    (new:ObjOk P w (upd H x o') h' x o'):HOk P w (upd H x o') h':=fun b u q=>by
  have nown:∀ c y,H c=some (.own y)->c≠x:=fun c y r z=>by subst z; rw [r] at mu; exact mu
  have ntup:∀ c xs,H c=some (.tup xs)->c≠x:=fun c xs r z=>by subst z; rw [r] at mu; exact mu
  by_cases hb:b=x
  · subst hb; rw [zab] at q; cases q; exact new
  · rw [zah hb] at q
    by_cases hbe:b=e
    · have q':H b=some (.own x):=by
        rcases he with z | z
        · exact absurd (hbe.trans z) hb
        · rw [hbe]; exact z
      rw [q] at q'; cases q'
      obtain ⟨v,hv⟩:=heo
      exact ⟨v,by rw [hbe]; exact hv⟩
    · refine (ok b u q).stay (fun c v hc r=>k c v ?_ r) (fun c r=>by rw [zah (nown c b r)]; exact r) fun c xs r=>by rw [zah (ntup c xs r)]; exact r
      rcases hc with rfl | hc
      · exact hbe
      · rintro rfl
        rcases he with z | z
        · exact nown c b hc z
        · rw [hc] at z; cases z; exact hb rfl
end
structure Un (fs ex:List Addr) (H H':Hp) (h h':Heap):Prop where
 keep:∀ b o,h.get? b=some o->H b=none->b ∉ fs->b ∉ ex->h'.get? b=some o
 slot:∀ b o,h.get? b=some o->H b=none->b∈fs->b ∉ ex->∃ sl,h'.get? b=some { o with slots:=sl }
 free:∀ b o,h.get? b=some o->H b=none->b ∉ ex->H' b=none
 there:∀ b o,h.get? b=some o->b ∉ ex->∃ o',h'.get? b=some o'
 tups:∀ b xs,H b=some (.tup xs)->H' b=some (.tup xs)
 frzs:∀ b o u,H b=some (.frz o u)->H' b=some (.frz o u)
 tbls:∀ b ps,H b=some (.tbl ps)->∃ more,H' b=some (.tbl (ps++more))
section
variable {fs fs' ex ex':List Addr} {H H1 H2:Hp} {h h1 h2 h':Heap} {a x e:Addr} {o:HO}
theorem Un.any (u:Un fs ex H H1 h h1) {b:Addr} {ob:Obj} (q:h.get? b=some ob) (n:H b=none) (hx:b ∉ ex):∃ sl,h1.get? b=some { ob with slots:=sl }:=by
 by_cases hb:b∈fs
 ·exact u.slot b ob q n hb hx
 ·exact ⟨ob.slots,u.keep b ob q n hb hx⟩
theorem Un.kept (k:∀ b u,h.get? b=some u->h'.get? b=some u):Un fs ex H H h h' :=
 ⟨fun b ob q _ _ _=>k b ob q,fun b ob q _ _ _=>⟨ob.slots,k b ob q⟩,fun _ _ _ n _=>n,fun b ob q _=>⟨ob,k b ob q⟩,fun _ _ q=>q,fun _ _ _ q=>q,fun _ ps q=>⟨#[],by rw [q]; simp⟩⟩
theorem Un.refl:Un fs ex H H h h:=Un.kept fun _ _ q=>q
theorem Un.laid (k:∀ b u,h.get? b=some u->h'.get? b=some u) (hp:h.objs.size<=a) (hn:H a=none):Un fs ex H (upd H a o) h h' where
 keep:=fun b u q _ _ _=>k b u q
 slot:=fun b u q _ _ _=>⟨u.slots,k b u q⟩
 free:=fun b u q n _=>by rw [zah (Nat.ne_of_lt (Nat.lt_of_lt_of_le (Heap.lt_size q) hp))]; exact n
 there:=fun b u q _=>⟨u,k b u q⟩
 tups:=fun b xs q=>by rw [zah (zan q hn)]; exact q
 frzs:=fun b u xs q=>by rw [zah (zan q hn)]; exact q
 tbls:=fun b ps q=>⟨#[],by rw [zah (zan q hn),q]; simp⟩
theorem Un.write (mu:Mut (H x)) (he:e=x\/H e=some (.own x)) (k:∀ b u,b≠e->h.get? b=some u->h'.get? b=some u) (heo:∃ u,h'.get? e=some u):Un fs ex H (upd H x o) h h':=by
 have hx:∀ b,H b=none->b≠x:=fun b n z=>by subst z; rw [n] at mu; exact mu
 have hb:∀ b,H b=none->b≠e:=fun b n z=>by
  subst z
  rcases he with r | r
  ·exact hx b n r
  ·rw [n] at r; cases r
 have hm:∀ b u,H b=some u->¬ Mut (some u)->b≠x:=fun b u q nm z=>by subst z; rw [q] at mu; exact nm mu
 refine ⟨fun b u q n _ _=>k b u (hb b n) q,fun b u q n _ _=>⟨u.slots,k b u (hb b n) q⟩,fun b u q n _=>by rw [zah (hx b n)]; exact n,fun b u q _=>?_,
  fun b xs q=>by rw [zah (hm b _ q fun z=>z)]; exact q,fun b u xs q=>by rw [zah (hm b _ q fun z=>z)]; exact q,fun b ps q=>⟨#[],by rw [zah (hm b _ q fun z=>z),q]; simp⟩⟩
 by_cases hbe:b=e
 ·subst hbe; exact heo
 ·exact ⟨u,k b u hbe q⟩
end
def trk (h:Heap) (H:Hp):List Addr:=(List.range h.objs.size).filter fun a=>(H a).isSome
def hidT (h:Heap) (H:Hp):Heap:=PySem.W.hideAll h (trk h H)
theorem znm (h:Heap) (H:Hp):(hidT h H).objs.size=h.objs.size:=PySem.W.hideAll_size _ _
theorem zpt {h:Heap} {H:Hp} {b:Addr} {o:Obj} (e:h.get? b=some o) (n:H b=none):(hidT h H).get? b=some o :=
 PySem.W.hideAll_get _ e fun hm=>by
  have q:(H b).isSome=true:=(List.mem_filter.mp hm).2
  rw [n] at q; simp at q
theorem zrs {h:Heap} {H:Hp} {b:Addr} {o:Obj} (e:(hidT h H).get? b=some o):h.get? b=some o/\H b=none:=by
 have e':h.get? b=some o:=PySem.W.of_hideAll (trk h H) e
 refine ⟨e',?_⟩
 cases q:H b with
 | none=>rfl
 | some x =>
  have hm:b∈trk h H:=List.mem_filter.mpr ⟨List.mem_range.mpr (Heap.lt_size e'),by simp [q]⟩
  have z:(hidT h H).get? b=none:=PySem.W.hideAll_none (trk h H) hm
  rw [z] at e; cases e
def zrt (g h:Heap) (L:Addr):List (Addr×Obj):=(List.range h.objs.size).filterMap fun a=>if a=L\/(g.get? a).isSome=true then none else (h.get? a).map fun o=>(a,o)
def rest (g h:Heap) (L d:Addr):List (Addr×Obj):=(zrt g h L).filter fun p=>decide (p.1≠d)
end L2
namespace L2
open PySem PySem.Spec PyProof.Rows
structure Mod (K:PySem.W.Frag) (mg:Str->Option Value) (base:Heap):Prop where
 kin:K.In base
 glob:base.Ns mainGlobals mg
 blt:∃ mb,base.Ns builtinsNs mb/\∀ x:Str,x ≠ "__name__" -> mb x=bootBuiltins x
 nolimit:base.NoLimit
structure Cx where
 prog:Program
 w:World
 K:PySem.W.Frag
 mg:Str->Option Value
 base:Heap
 A:Around
 N:List Str
 s₀:Shared
 H₀:Hp
 env:Env
 outer:List Env
 stack:List Env
 ex:List Addr
 fn:Str->Bool
 calm:Bool
 pn:List (Addr×Obj)
 xe:Value->Shared->Prop
def frs (l:List Env):List Addr:=l.filterMap (·.frame)
abbrev Cx.fs (X:Cx):List Addr:=frs X.outer
def Vis (sc:Scope) (x:Str):Prop:=sc.names.lookup x=some .local\/sc.names.lookup x=some .cell\/sc.names.lookup x=some .free
def Loc (sc:Scope) (x:Str):Prop:=sc.names.lookup x=some .local\/sc.names.lookup x=some .cell
def Look (env:Env) (h:Heap) (m:Str->Option Value) (x:Str) (u:Value):Prop :=
 (env.kindOf x=some .local/\m x=some u)\/((env.kindOf x=some .cell\/env.kindOf x=some .free)/\∃ c,env.cells.lookup x=some c/\h.IsCell c (some u))
structure Cx.Ok (X:Cx):Prop where
 mod:Mod X.K X.mg X.base
 kind:X.env.scope.kind = .function
 glob:X.env.globals=mainGlobals
 blt:X.env.builtins=builtinsNs
 above:X.s₀.heap.objs.size<=X.env.locals
 inj:∀ x y c,X.env.cells.lookup x=some c->X.env.cells.lookup y=some c->x=y
 has:∀ x,(X.env.kindOf x=some .cell\/X.env.kindOf x=some .free)->∃ c,X.env.cells.lookup x=some c
 cab:∀ x c,X.fn x=true->X.env.cells.lookup x=some c->X.s₀.heap.objs.size<=c
 hd:X.calm=true->X.A.handled=none
 frames:X.A.frames=some X.stack
 stk:X.stack=X.outer\/(X.stack=X.env :: X.outer/\X.env.frame=some X.env.locals)
 exf:∀ b∈X.ex,b≠X.env.locals/\∀ x c,X.env.cells.lookup x=some c->c≠b
 bs:∀ b o,X.base.get? b=some o->X.s₀.heap.get? b=some o/\X.H₀ b=none
 bsz:X.base.objs.size<=X.s₀.heap.objs.size
 noex:∀ b o,X.base.get? b=some o->b ∉ X.ex
 exfs:∀ b∈X.ex,b ∉ X.fs
 funs:X.s₀.heap.FunFrames X.base X.outer
 frf:∀ b∈X.fs,X.H₀ b=none
structure Inv (X:Cx) (pins:List (Addr×Obj)) (σ:List (Option V)) (H:Hp) (s:Shared):Prop where
 ok:X.Ok
 os:s.os=X.s₀.os
 bare:AllBare s.gens
 base:Un X.fs X.ex X.H₀ H X.s₀.heap s.heap
 loc:∃ m,s.heap.Ns X.env.locals m/\∀ (i:Nat) (x:Str) (v:V),X.N[i]? = some x->σ[i]? = some (some v)->Vis X.env.scope x->∃ u,RelV v u/\Look X.env s.heap m x u
 cell:∀ x c,X.env.cells.lookup x=some c->∃ v,s.heap.IsCell c v
 free:H X.env.locals=none
 freeC:∀ x c,X.env.cells.lookup x=some c->H c=none
 pin:∀ p∈X.pn++pins,s.heap.get? p.1=some p.2/\H p.1=none/\p.1≠X.env.locals/\p.1 ∉ X.fs/\∀ v,p.2.data≠.cell v
 hok:HOk X.prog X.w H s.heap
 len:σ.length=X.N.length
section
variable {X:Cx} {pins:List (Addr×Obj)} {σ:List (Option V)} {H H':Hp} {s:Shared} {h':Heap}
theorem Cx.Ok.nofr (ok:X.Ok) {b:Addr} {o:Obj} (e:X.base.get? b=some o):b ∉ X.fs:=fun hb=>by
 have:=(ok.funs.mem hb).1
 rw [e] at this; cases this
theorem Inv.bs (I:Inv X pins σ H s):∀ b o,X.base.get? b=some o->s.heap.get? b=some o/\H b=none:=fun b o e =>
 ⟨I.base.keep b o (I.ok.bs b o e).1 (I.ok.bs b o e).2 (I.ok.nofr e) (I.ok.noex b o e),I.base.free b o (I.ok.bs b o e).1 (I.ok.bs b o e).2 (I.ok.noex b o e)⟩
theorem Inv.bk (I:Inv X pins σ H s):∀ b o,X.base.get? b=some o->s.heap.get? b=some o:=fun b o e=>(I.bs b o e).1
theorem Inv.mod (I:Inv X pins σ H s):Mod X.K X.mg X.base:=I.ok.mod
theorem Inv.kIn (I:Inv X pins σ H s):X.K.In s.heap:=I.ok.mod.kin.keeps I.bk
theorem Inv.lt (I:Inv X pins σ H s):X.env.locals<s.heap.objs.size:=let ⟨_,hn,_⟩:=I.loc; hn.lt
theorem Inv.sz (I:Inv X pins σ H s):X.s₀.heap.objs.size<=s.heap.objs.size:=Nat.le_trans I.ok.above (Nat.le_of_lt I.lt)
theorem Inv.nofs (I:Inv X pins σ H s) {a:Addr} (h:s.heap.objs.size<=a):a ∉ X.fs:=fun hb=>by
 obtain ⟨_,o,ho,_⟩:=I.ok.funs.mem hb
 exact absurd (Nat.lt_of_lt_of_le (Heap.lt_size ho) (Nat.le_trans I.sz h)) (Nat.lt_irrefl _)
theorem Inv.cne (I:Inv X pins σ H s):∀ x c,X.env.cells.lookup x=some c->c≠X.env.locals:=fun x c e z=>by
 obtain ⟨v,o,ho,hd⟩:=I.cell x c e
 obtain ⟨m,⟨o',es,ep,ho',hd',_⟩,_⟩:=I.loc
 rw [z,ho'] at ho; cases ho; rw [hd'] at hd; cases hd
theorem Inv.funs (I:Inv X pins σ H s):s.heap.FunFrames X.base X.outer:=by
 have all:∀ (l:List Env),(∀ b∈frs l,b∈X.fs)->X.s₀.heap.FunFrames X.base l->s.heap.FunFrames X.base l:=by
  intro l
  induction l with
  | nil=>intro _ _; trivial
  | cons env r ih =>
   intro hs hl
   obtain ⟨hk,⟨L,o,hf,hn,ho,hd⟩,hr⟩:=hl
   have hL:L∈X.fs:=hs L (by unfold frs; rw [List.filterMap_cons,hf]; exact List.mem_cons_self)
   obtain ⟨sl,e⟩:=I.base.slot L o ho (I.ok.frf L hL) hL fun z=>I.ok.exfs L z hL
   exact ⟨hk,⟨L,_,hf,hn,e,hd⟩,ih (fun b hb=>hs b (by unfold frs; rw [List.filterMap_cons,hf]; exact List.mem_cons_of_mem _ hb)) hr⟩
 exact all X.outer (fun _ hb=>hb) I.ok.funs
theorem Inv.stack (I:Inv X pins σ H s):s.heap.FunFrames X.base X.stack:=by
 rcases I.ok.stk with e | ⟨e,hf⟩
 ·rw [e]; exact I.funs
 ·rw [e]
  obtain ⟨m,hn,_⟩:=I.loc
  refine .cons (by rw [I.ok.kind]; decide) hf hn ?_ I.funs
  exact Heap.get?_none_of_le (Nat.le_trans I.ok.bsz I.ok.above)
theorem Inv.stkSub (I:Inv X pins σ H s):∀ b∈frs X.stack,b∈X.env.locals :: X.fs:=fun b hb=>by
 rcases I.ok.stk with e | ⟨e,hf⟩
 ·rw [e] at hb; exact List.mem_cons_of_mem _ hb
 ·rw [e] at hb
  unfold frs at hb
  rw [List.filterMap_cons,hf] at hb
  exact hb
theorem Inv.stkFree (I:Inv X pins σ H s):∀ b∈frs X.stack,H b=none:=fun b hb=>by
 rcases List.mem_cons.mp (I.stkSub b hb) with e | hb
 ·rw [e]; exact I.free
 ·obtain ⟨_,o,ho,_⟩:=I.ok.funs.mem hb
  exact I.base.free b o ho (I.ok.frf b hb) fun z=>I.ok.exfs b z hb
theorem Inv.step {g':Array GenState} {t':Nat} {d':Drawn} {ch:List Addr} (I:Inv X pins σ H s)
    (hch:∀ b∈ch,(b∈X.ex\/X.s₀.heap.objs.size<=b)/\b≠X.env.locals/\(∀ x c,X.env.cells.lookup x=some c->c≠b)/\∀ p∈X.pn++pins,p.1≠b)
    (keep:∀ b o,b≠X.env.locals->b ∉ X.fs->b ∉ ch->s.heap.get? b=some o->H b=none->h'.get? b=some o)
    (slot:∀ b o,b≠X.env.locals->b∈X.fs->b ∉ ch->s.heap.get? b=some o->H b=none->∃ sl,h'.get? b=some { o with slots:=sl }) (free:∀ b o,b ∉ ch->s.heap.get? b=some o->H b=none->H' b=none)
    (there:∀ b o,b ∉ ch->s.heap.get? b=some o->∃ o',h'.get? b=some o')
    (tups:∀ b xs,H b=some (.tup xs)->H' b=some (.tup xs)) (frzs:∀ b o u,H b=some (.frz o u)->H' b=some (.frz o u)) (tbls:∀ b ps,H b=some (.tbl ps)->∃ more,H' b=some (.tbl (ps++more)))
    (ns:∀ m,s.heap.Ns X.env.locals m->h'.Ns X.env.locals m) (hok:HOk X.prog X.w H' h') (hg:AllBare g') :
    Inv X pins σ H' { s with heap:=h',gens:=g',drawn:=d',toks:=t' }:=by
  have neL:∀ b o,X.s₀.heap.get? b=some o->b≠X.env.locals:=fun b o e=>Nat.ne_of_lt (Nat.lt_of_lt_of_le (Heap.lt_size e) I.ok.above)
  have neC:∀ b o,X.s₀.heap.get? b=some o->b ∉ X.ex->b ∉ ch:=fun b o e hx hb=>by
    rcases (hch b hb).1 with z | z
    · exact hx z
    · exact absurd (Nat.lt_of_lt_of_le (Heap.lt_size e) z) (Nat.lt_irrefl _)
  have cellK:∀ x c,X.env.cells.lookup x=some c->∀ v,s.heap.IsCell c v->h'.IsCell c v:=fun x c e v ⟨o,ho,hd⟩=>by
    have nch:c ∉ ch:=fun z=>(hch c z).2.2.1 x c e rfl
    by_cases hc:c∈X.fs
    · obtain ⟨sl,q⟩:=slot c o (I.cne x c e) hc nch ho (I.freeC x c e)
      exact ⟨_,q,hd⟩
    · exact ⟨o,keep c o (I.cne x c e) hc nch ho (I.freeC x c e),hd⟩
  refine ⟨I.ok,I.os,hg,⟨fun b o e n hb hx=>?_,fun b o e n hb hx=>?_,fun b o e n hx=>?_,fun b o e hx=>?_,fun b xs e=>tups b xs (I.base.tups b xs e),fun b o xs e=>frzs b o xs (I.base.frzs b o xs e),fun b ps e=>?_⟩,?_,fun x c e=>?_,?_,fun x c e=>?_,fun p hp=>?_,hok,I.len⟩
  · exact keep b o (neL b o e) hb (neC b o e hx) (I.base.keep b o e n hb hx) (I.base.free b o e n hx)
  · obtain ⟨sl,e1⟩:=I.base.slot b o e n hb hx
    obtain ⟨sl',e2⟩:=slot b _ (neL b o e) hb (neC b o e hx) e1 (I.base.free b o e n hx)
    exact ⟨sl',e2⟩
  · obtain ⟨o',e1⟩:=I.base.there b o e hx
    exact free b o' (neC b o e hx) e1 (I.base.free b o e n hx)
  · obtain ⟨o',e1⟩:=I.base.there b o e hx
    exact there b o' (neC b o e hx) e1
  · obtain ⟨m1,e1⟩:=I.base.tbls b ps e
    obtain ⟨m2,e2⟩:=tbls b _ e1
    exact ⟨m1++m2,by rw [e2,Array.append_assoc]⟩
  · obtain ⟨m,hn,hl⟩:=I.loc
    refine ⟨m,ns m hn,fun i x v e1 e2 e3=>?_⟩
    obtain ⟨u,r,l⟩:=hl i x v e1 e2 e3
    refine ⟨u,r,?_⟩
    rcases l with l | ⟨k,c,e,z⟩
    · exact .inl l
    · exact .inr ⟨k,c,e,cellK x c e _ z⟩
  · obtain ⟨v,z⟩:=I.cell x c e
    exact ⟨v,cellK x c e v z⟩
  · obtain ⟨m,⟨o,_,_,ho,_⟩,_⟩:=I.loc
    exact free _ o (fun z=>(hch _ z).2.1 rfl) ho I.free
  · obtain ⟨v,o,ho,hd⟩:=I.cell x c e
    exact free c o (fun z=>(hch c z).2.2.1 x c e rfl) ho (I.freeC x c e)
  · obtain ⟨e,n,ne,nf,d⟩:=I.pin p hp
    have nch:p.1 ∉ ch:=fun z=>(hch p.1 z).2.2.2 p hp rfl
    exact ⟨keep p.1 p.2 ne nf nch e n,free p.1 p.2 nch e n,ne,nf,d⟩
theorem Inv.un {t':Nat} (I:Inv X pins σ H s) (u:Un X.fs [] H H' s.heap h') (hok:HOk X.prog X.w H' h'):Inv X pins σ H' { s with heap:=h',toks:=t' }:=by
 obtain ⟨m,⟨o,es,ep,ho,r⟩,_⟩:=id I.loc
 obtain ⟨sl,hL⟩:=u.any ho I.free (by simp)
 exact I.step (g':=s.gens) (d':=s.drawn) (ch:=[]) (fun _ z=>nomatch z) (fun b o _ hb _ e n=>u.keep b o e n hb (by simp)) (fun b o _ hb _ e n=>u.slot b o e n hb (by simp)) (fun b o _ e n=>u.free b o e n (by simp)) (fun b o _ e=>u.there b o e (by simp)) u.tups u.frzs u.tbls (fun m' hm=>by
  obtain ⟨o',es',ep',ho',r'⟩:=hm
  rw [ho] at ho'; cases ho'
  exact ⟨_,es',ep',hL,r'⟩) hok I.bare
theorem Inv.call {g':Array GenState} {t':Nat} {d':Drawn} {ch:List Addr} (I:Inv X pins σ H s) (u:Un (frs X.stack) ch H H' s.heap h') (hok:HOk X.prog X.w H' h') (hg:AllBare g')
    (hch:∀ b∈ch,(b∈X.ex\/X.s₀.heap.objs.size<=b)/\b≠X.env.locals/\(∀ x c,X.env.cells.lookup x=some c->c≠b)/\∀ p∈X.pn++pins,p.1≠b) :
    Inv X pins σ H' { s with heap:=h',gens:=g',drawn:=d',toks:=t' }:=by
  obtain ⟨m,⟨o,es,ep,ho,r⟩,_⟩:=id I.loc
  obtain ⟨sl,hL⟩:=u.any ho I.free fun z=>(hch _ z).2.1 rfl
  exact I.step (ch:=ch) hch (fun b o hL hb hc e n=>u.keep b o e n (fun z=>(List.mem_cons.mp (I.stkSub b z)).elim hL hb) hc) (fun b o _ _ hc e n=>u.any e n hc) (fun b o hc e n=>u.free b o e n hc) (fun b o hc e=>u.there b o e hc) u.tups u.frzs u.tbls (fun m' hm=>by
    obtain ⟨o',es',ep',ho',r'⟩:=hm
    rw [ho] at ho'; cases ho'
    exact ⟨_,es',ep',hL,r'⟩) hok hg
theorem Inv.turned {t':Nat} {it:Addr} (I:Inv X pins σ H s) (k:∀ b o,b≠it->s.heap.get? b=some o->h'.get? b=some o) (hn:H it=none) (hL:it≠X.env.locals)
    (h1:it∈X.ex\/X.s₀.heap.objs.size<=it) (h2:∀ x c,X.env.cells.lookup x=some c->c≠it) (h3:∀ p∈X.pn++pins,p.1≠it):Inv X pins σ H { s with heap:=h',toks:=t' }:=by
  have nit:∀ b u,H b=some u->b≠it:=fun b u e z=>by rw [z,hn] at e; cases e
  refine I.step (g':=s.gens) (d':=s.drawn) (ch:=[it]) (fun b hb=>?_) (fun b o _ _ hc e _=>k b o (fun z=>hc (by simp [z])) e) (fun b o _ _ hc e _=>⟨o.slots,k b o (fun z=>hc (by simp [z])) e⟩) (fun _ _ _ _ n=>n)
    (fun b o hc e=>⟨o,k b o (fun z=>hc (by simp [z])) e⟩) (fun _ _ e=>e) (fun _ _ _ e=>e) (fun b ps e=>⟨#[],by rw [e]; simp⟩) (fun m hm=>?_) (fun b u e=>?_) I.bare
  · have e:b=it:=by simpa using hb
    subst e
    exact ⟨h1,hL,h2,h3⟩
  · obtain ⟨o,es,ep,ho,r⟩:=hm
    exact ⟨o,es,ep,k _ o (Ne.symm hL) ho,r⟩
  · refine (I.hok b u e).stay (fun c v hc q=>k c v ?_ q) (fun _ q=>q) fun _ _ q=>q
    rcases hc with z | z
    · rw [z]; exact nit b u e
    · exact nit c _ z
theorem Inv.tok (I:Inv X pins σ H s) (t:Nat):Inv X pins σ H { s with toks:=t }:=I.un (h':=s.heap) (t':=t) Un.refl I.hok
theorem Inv.kept {t':Nat} (I:Inv X pins σ H s) (k:∀ b u,s.heap.get? b=some u->h'.get? b=some u):Inv X pins σ H { s with heap:=h',toks:=t' }:=I.un (Un.kept k) (I.hok.kept k)
theorem Inv.laid {a:Addr} {o:HO} {t':Nat} (I:Inv X pins σ H s) (k:∀ b u,s.heap.get? b=some u->h'.get? b=some u) (hp:s.heap.objs.size<=a) (new:ObjOk X.prog X.w (upd H a o) h' a o) :
    Inv X pins σ (upd H a o) { s with heap:=h',toks:=t' }:=I.un (Un.laid k hp (I.hok.fresh hp)) (I.hok.laid k hp new)
theorem Inv.write {x e:Addr} {o:HO} {t':Nat} (I:Inv X pins σ H s) (mu:Mut (H x)) (he:e=x\/H e=some (.own x)) (k:∀ b u,b≠e->s.heap.get? b=some u->h'.get? b=some u) (heo:∃ u,h'.get? e=some u)
    (new:ObjOk X.prog X.w (upd H x o) h' x o):Inv X pins σ (upd H x o) { s with heap:=h',toks:=t' }:=I.un (Un.write mu he k heo) (I.hok.write mu he k heo new)
theorem Inv.pins_of {pins':List (Addr×Obj)} (I:Inv X pins σ H s) (h:∀ p∈pins',s.heap.get? p.1=some p.2/\H p.1=none/\p.1≠X.env.locals/\p.1 ∉ X.fs/\∀ v,p.2.data≠.cell v):Inv X pins' σ H s :=
 ⟨I.ok,I.os,I.bare,I.base,I.loc,I.cell,I.free,I.freeC,fun p hp=>(List.mem_append.mp hp).elim (fun z=>I.pin p (List.mem_append_left _ z)) (h p),I.hok,I.len⟩
theorem ziu {N:List Str} (hN:N.Nodup) {i j:Nat} {x:Str} (a:N[i]? = some x) (b:N[j]? = some x):i=j:=by
 obtain ⟨h1,e1⟩:=List.getElem?_eq_some_iff.mp a
 obtain ⟨h2,e2⟩:=List.getElem?_eq_some_iff.mp b
 exact (List.getElem_inj hN).mp (e1.trans e2.symm)
theorem znn {M:Model} {A:Around} {E:Value->Shared->Prop} {i:Nat} {x:Str} {v:V} {u:Value} {Q:Unit->Shared->Prop} (I:Inv X pins σ H s) (hN:X.N.Nodup) (hi:X.N[i]? = some x) (hx:Loc X.env.scope x) (r:RelV v u)
    (h:∀ s',Inv X pins (σ.set i (some v)) H s'->(∃ a,Heap.SameBut a s.heap s'.heap/\(a=X.env.locals\/X.env.cells.lookup x=some a))->Q () s') (hf:X.fn x=true\/X.env.scope.names.lookup x=some .local:=by first | exact .inl rfl | exact .inr rfl | assumption):wpAny M A (storeName X.env x u) Q E s:=by
  obtain ⟨m,hn,hl⟩:=id I.loc
  have hcls:(X.env.scope.kind == .class || (X.env.scope.kind == .module && X.env.locals != X.env.globals))=false:=by rw [I.ok.kind]; rfl
  have hiσ:i < σ.length:=by rw [I.len]; exact (List.getElem?_eq_some_iff.mp hi).1
  have cne:=I.cne
  have tracked:∀ {a:Addr} {h':Heap},(∃ o,s.heap.get? a=some o/\H a=none)->Heap.SameBut a s.heap h'->HOk X.prog X.w H h':=fun {a h'} ha hs b ob e=>by
    obtain ⟨_,_,hfree⟩:=ha
    refine (I.hok b ob e).stay (fun c w' hc q=>(hs.2 c ?_).trans q) (fun _ q=>q) fun _ _ q=>q
    rintro rfl
    rcases hc with rfl | hc
    · rw [hfree] at e; cases e
    · rw [hfree] at hc; cases hc
  rcases hx with hk | hk
  · refine wpAny_storeName_local hk hn (fun h' hn' hs=>?_) hcls
    obtain ⟨oL,_,_,hoL,_⟩:=id hn
    refine h _ ⟨I.ok,I.os,I.bare,⟨fun b o e n hb hx=>?_,fun b o e n hb hx=>?_,I.base.free,fun b o e hx=>?_,I.base.tups,I.base.frzs,I.base.tbls⟩,⟨_,hn',fun j y v' e1 e2 e3=>?_⟩,fun y c e=>?_,I.free,I.freeC,fun p hp=>?_,tracked ⟨oL,hoL,I.free⟩ hs,by simpa using I.len⟩ ⟨_,hs,.inl rfl⟩
    · exact (hs.2 b (Nat.ne_of_lt (Nat.lt_of_lt_of_le (Heap.lt_size e) I.ok.above))).trans (I.base.keep b o e n hb hx)
    · obtain ⟨sl,e1⟩:=I.base.slot b o e n hb hx
      exact ⟨sl,(hs.2 b (Nat.ne_of_lt (Nat.lt_of_lt_of_le (Heap.lt_size e) I.ok.above))).trans e1⟩
    · obtain ⟨o',e1⟩:=I.base.there b o e hx
      exact ⟨o',(hs.2 b (Nat.ne_of_lt (Nat.lt_of_lt_of_le (Heap.lt_size e) I.ok.above))).trans e1⟩
    · by_cases hj:j=i
      · subst hj
        rw [hi] at e1; cases e1
        rw [List.getElem?_set_self hiσ] at e2
        cases e2
        exact ⟨u,r,.inl ⟨hk,by simp⟩⟩
      · rw [List.getElem?_set_ne (Ne.symm hj)] at e2
        obtain ⟨u',r',q⟩:=hl j y v' e1 e2 e3
        refine ⟨u',r',?_⟩
        rcases q with ⟨k,e⟩ | ⟨k,c,e,z⟩
        · refine .inl ⟨k,?_⟩
          have:y≠x:=fun e=>hj (ziu hN e1 (e ▸ hi))
          simp [this,e]
        · exact .inr ⟨k,c,e,z.sameBut hs (cne y c e)⟩
    · obtain ⟨w',z⟩:=I.cell y c e
      exact ⟨w',z.sameBut hs (cne y c e)⟩
    · obtain ⟨e,n,ne,nf,d⟩:=I.pin p hp
      exact ⟨(hs.2 p.1 ne).trans e,n,ne,nf,d⟩
  · have hfn:X.fn x=true:=by
      rcases hf with z | z
      · exact z
      · rw [z] at hk; cases hk
    obtain ⟨c,hc⟩:=I.ok.has x (.inl hk)
    obtain ⟨w',z⟩:=I.cell x c hc
    refine wpAny_storeName_cell I.ok.kind hk hc z (fun h' hc' hs=>?_)
    obtain ⟨oc,hoc,hocd⟩:=id z
    refine h { s with heap:=h' } ⟨I.ok,I.os,I.bare,⟨fun b o e n hb hx=>?_,fun b o e n hb hx=>?_,I.base.free,fun b o e hx=>?_,I.base.tups,I.base.frzs,I.base.tbls⟩,⟨m,hn.sameBut hs (Ne.symm (cne x c hc)),fun j y v' e1 e2 e3=>?_⟩,fun y c' e=>?_,I.free,I.freeC,fun p hp=>?_,tracked ⟨oc,hoc,I.freeC x c hc⟩ hs,by simpa using I.len⟩ ⟨c,hs,.inr hc⟩
    · exact (hs.2 b (Nat.ne_of_lt (Nat.lt_of_lt_of_le (Heap.lt_size e) (I.ok.cab x c hfn hc)))).trans (I.base.keep b o e n hb hx)
    · obtain ⟨sl,e1⟩:=I.base.slot b o e n hb hx
      exact ⟨sl,(hs.2 b (Nat.ne_of_lt (Nat.lt_of_lt_of_le (Heap.lt_size e) (I.ok.cab x c hfn hc)))).trans e1⟩
    · obtain ⟨o',e1⟩:=I.base.there b o e hx
      exact ⟨o',(hs.2 b (Nat.ne_of_lt (Nat.lt_of_lt_of_le (Heap.lt_size e) (I.ok.cab x c hfn hc)))).trans e1⟩
    · by_cases hj:j=i
      · subst hj
        rw [hi] at e1; cases e1
        rw [List.getElem?_set_self hiσ] at e2
        cases e2
        exact ⟨u,r,.inr ⟨.inl hk,c,hc,hc'⟩⟩
      · rw [List.getElem?_set_ne (Ne.symm hj)] at e2
        obtain ⟨u',r',q⟩:=hl j y v' e1 e2 e3
        refine ⟨u',r',?_⟩
        rcases q with q | ⟨k,c',e,z'⟩
        · exact .inl q
        · refine .inr ⟨k,c',e,z'.sameBut hs ?_⟩
          rintro rfl
          exact hj (ziu hN e1 (I.ok.inj _ _ _ e hc ▸ hi))
    · by_cases hcc:c'=c
      · subst hcc; exact ⟨_,hc'⟩
      · obtain ⟨w2,z2⟩:=I.cell y c' e
        exact ⟨w2,z2.sameBut hs hcc⟩
    · obtain ⟨e,n,ne,nf,d⟩:=I.pin p hp
      refine ⟨(hs.2 p.1 ?_).trans e,n,ne,nf,d⟩
      intro q
      rw [q,hoc] at e
      have q':oc=p.2:=Option.some.inj e
      exact d w' (by rw [<- q']; exact hocd)
theorem zgy {M:Model} {A:Around} {E:Value->Shared->Prop} {i:Nat} {x:Str} {v:V} {u:Value} {Q:Unit->Shared->Prop} (I:Inv X pins σ H s) (hN:X.N.Nodup) (hi:X.N[i]? = some x) (hx:Loc X.env.scope x) (r:RelV v u)
    (h:∀ s',Inv X pins (σ.set i (some v)) H s'->Q () s') (hf:X.fn x=true\/X.env.scope.names.lookup x=some .local:=by first | exact .inl rfl | exact .inr rfl | assumption):wpAny M A (storeName X.env x u) Q E s :=
  znn I hN hi hx r (fun s' I' _=>h s' I') hf
theorem Inv.call' {s':Shared} {ch:List Addr} (I:Inv X pins σ H s) (ho:s'.os=s.os) (u:Un (frs X.stack) ch H H' s.heap s'.heap) (hok:HOk X.prog X.w H' s'.heap) (hg:AllBare s'.gens)
    (hch:∀ b∈ch,(b∈X.ex\/X.s₀.heap.objs.size<=b)/\b≠X.env.locals/\(∀ x c,X.env.cells.lookup x=some c->c≠b)/\∀ p∈X.pn++pins,p.1≠b):Inv X pins σ H' s':=by
  obtain ⟨h',g',d',t',o'⟩:=s'
  have e:o'=s.os:=ho
  subst e
  exact I.call (g':=g') (t':=t') (d':=d') u hok hg hch
end
abbrev XK:=Value->Option Addr->Hp->Prop
abbrev St:=List (Option V)
abbrev VK:=V->Hp->Prop
abbrev TE:=St->Hp->VK->Prop
abbrev TT:=St->Hp->(Bool->Hp->Prop)->Prop
abbrev TA:=St->Hp->(List V->Hp->Prop)->Prop
structure Ends where
 nx:St->Hp->Prop
 rt:VK
 bk:St->Hp->Prop:=fun _ _=>False
 ct:St->Hp->Prop:=fun _ _=>False
abbrev TS:=Ends->St->Hp->Prop
def EP (X:Cx) (pins:List (Addr×Obj)) (σ:St) (Q:VK) (u:Value) (s':Shared):Prop:=∃ v H',Inv X pins σ H' s'/\RelV v u/\Q v H'
def TP (X:Cx) (pins:List (Addr×Obj)) (σ:St) (Q:Bool->Hp->Prop) (b:Bool) (s':Shared):Prop:=∃ H',Inv X pins σ H' s'/\Q b H'
def AP (X:Cx) (pins:List (Addr×Obj)) (σ:St) (Q:List V->Hp->Prop) (us:List Value) (s':Shared):Prop:=∃ vs H',Inv X pins σ H' s'/\Vals vs us/\Q vs H'
def SP (X:Cx) (pins:List (Addr×Obj)) (D:Ends) (f:Flow) (s':Shared):Prop :=
 match f with
 | .next=>∃ σ' H',Inv X pins σ' H' s'/\D.nx σ' H'
 | .brk=>∃ σ' H',Inv X pins σ' H' s'/\D.bk σ' H'
 | .cont=>∃ σ' H',Inv X pins σ' H' s'/\D.ct σ' H'
 | .ret u=>∃ v σ' H',Inv X pins σ' H' s'/\RelV v u/\D.rt v H'
def PE (X:Cx) (e:Expr) (t:TE):Prop :=
 ∀ (pins:List (Addr×Obj)) (s:Shared) (σ:St) (H:Hp) (Q:VK),Inv X pins σ H s->t σ H Q->wpAny (model X.prog X.w) X.A (eval e X.env) (EP X pins σ Q) X.xe s
def PT (X:Cx) (e:Expr) (t:TT):Prop :=
 ∀ (pins:List (Addr×Obj)) (s:Shared) (σ:St) (H:Hp) (Q:Bool->Hp->Prop),Inv X pins σ H s->t σ H Q->wpAny (model X.prog X.w) X.A (isTrue e X.env (eval e X.env)) (TP X pins σ Q) X.xe s
def PW (X:Cx) (e:Expr) (t:TT):Prop :=
 ∀ (whole:Sem Value) (pins:List (Addr×Obj)) (s:Shared) (σ:St) (H:Hp) (Q:Bool->Hp->Prop),Inv X pins σ H s->t σ H Q->wpAny (model X.prog X.w) X.A (isTrue e X.env whole) (TP X pins σ Q) X.xe s
theorem PW.pt {X:Cx} {e:Expr} {t:TT} (h:PW X e t):PT X e t:=h _
def PA (X:Cx) (es:List Expr) (t:TA):Prop :=
 ∀ (pos:Pos) (pins:List (Addr×Obj)) (s:Shared) (σ:St) (H:Hp) (Q:List V->Hp->Prop),Inv X pins σ H s->t σ H Q->wpAny (model X.prog X.w) X.A (spliced (backTo pos (starEach es X.env))) (AP X pins σ Q) X.xe s
def PS (X:Cx) (st:Stmt) (t:TS):Prop :=
 ∀ (pins:List (Addr×Obj)) (s:Shared) (σ:St) (H:Hp) (D:Ends),Inv X pins σ H s->t D σ H->wpAny (model X.prog X.w) X.A (exec st X.env) (SP X pins D) X.xe s
def PSs (X:Cx) (st:List Stmt) (t:TS):Prop :=
 ∀ (pins:List (Addr×Obj)) (s:Shared) (σ:St) (H:Hp) (D:Ends),Inv X pins σ H s->t D σ H->wpAny (model X.prog X.w) X.A (execs st X.env) (SP X pins D) X.xe s
theorem thn {α:Type} {t:Sem α} {Q Q':α->Shared->Prop} {M:Model} {A:Around} {E:Value->Shared->Prop} {s:Shared} (h:wpAny M A t Q E s) (hQ:∀ a s,Q a s->Q' a s):wpAny M A t Q' E s:=wpAny_mono h hQ fun _ _ x=>x
end L2
namespace L2
open PySem PySem.Spec PyProof.Rows
section
variable {X:Cx}
def tVar (i:Nat):TE:=fun σ H Q=>∃ v,σ[i]? = some (some v)/\Q v H
def tC (v:V):TE:=fun _ H Q=>Q v H
theorem zth {i:Nat} {x:Str} {pos:Pos} (hN:X.N[i]? = some x) (hv:Vis X.env.scope x) (hd:(x == ("__debug__" : Str))=false:=by decide) (hcd:(x == ("__classdict__" : Str))=false:=by decide):PE X (.Name x pos) (tVar i):=by
 intro pins s σ H Q I h
 obtain ⟨v,e,h⟩:=h
 obtain ⟨m,hn,hl⟩:=I.loc
 obtain ⟨u,r,l⟩:=hl i x v hN e hv
 have fin:EP X pins σ Q u s:=⟨v,H,I,r,h⟩
 rcases l with ⟨hk,hm⟩ | ⟨hk,c,hc,hcell⟩
 ·exact wpAny_Name (wpAny_loadName_local I.ok.kind hk hn hm fin) hd
 ·rcases hk with hk | hk
  ·exact wpAny_Name (wpAny_loadName_cell I.ok.kind hk hc hcell fin) hd
  ·exact wpAny_Name (wpAny_loadName_free I.ok.kind hk hc hcell fin hcd) hd
theorem zai {i j pos}:PE X (.Constant (.int i) j pos) (tC (.int i)):=fun _ _ _ H _ I h=>wpAny_Constant_int ⟨.int i,H,I.tok _,⟨_,rfl⟩,h⟩
theorem pe_bl {b j pos}:PE X (.Constant (.bool b) j pos) (tC (.bl b)):=fun _ _ _ H _ I h=>Constant_bool ⟨.bl b,H,I,rfl,h⟩
theorem zdy {j pos}:PE X (.Constant .none j pos) (tC .non):=fun _ _ _ H _ I h=>Constant_none ⟨.non,H,I,rfl,h⟩
theorem zaq {x j pos}:PE X (.Constant (.str x) j pos) (tC (.str x)):=fun _ _ _ H _ I h=>Calls.Constant_str ⟨.str x,H,I.tok _,⟨_,rfl⟩,h⟩
def Gl (X:Cx) (x:Str):Prop:=X.env.kindOf x=some .globalImplicit
theorem zed {E:Value->Shared->Prop} {pins:List (Addr×Obj)} {s:Shared} {σ:St} {H:Hp} {x:Str} {u:Value} {pos:Pos} {Q:Value->Shared->Prop} (I:Inv X pins σ H s) (hg:Gl X x) (hm:X.mg x=some u) (h:Q u s)
    (hd:(x == ("__debug__" : Str))=false:=by decide):wpAny (model X.prog X.w) X.A (eval (.Name x pos) X.env) Q E s :=
  Calls.Name_function_global I.ok.kind hg (Calls.loadGlobal_global (by rw [I.ok.glob]; exact I.mod.glob.keeps I.bk) hm h) hd
theorem zlu {E:Value->Shared->Prop} {pins:List (Addr×Obj)} {s:Shared} {σ:St} {H:Hp} {x:Str} {u:Value} {pos:Pos} {Q:Value->Shared->Prop} (I:Inv X pins σ H s) (hg:Gl X x) (hm:X.mg x=none) (hv:bootBuiltins x=some u) (h:Q u s)
    (hn:x ≠ "__name__" := by decide) (hd:(x == ("__debug__" : Str))=false:=by decide):wpAny (model X.prog X.w) X.A (eval (.Name x pos) X.env) Q E s:=by
  obtain ⟨mb,h1,h2⟩:=I.mod.blt
  exact Calls.Name_function_global I.ok.kind hg (Calls.loadGlobal_builtin (by rw [I.ok.glob]; exact I.mod.glob.keeps I.bk) hm (by rw [I.ok.blt]; exact h1.keeps I.bk) ((h2 x hn).trans hv) h) hd
theorem zee {x:Str} {v:V} {u:Value} {pos:Pos} (hg:Gl X x) (hm:X.mg x=some u) (r:RelV v u) (hd:(x == ("__debug__" : Str))=false:=by decide):PE X (.Name x pos) (tC v) :=
 fun _ _ _ H _ I h=>zed I hg hm ⟨v,H,I,r,h⟩ hd
theorem zkz {x:Str} {v:V} {u:Value} {pos:Pos} (hg:Gl X x) (hm:X.mg x=none) (hv:bootBuiltins x=some u) (r:RelV v u) (hn:x ≠ "__name__" := by decide) (hd:(x == ("__debug__" : Str))=false:=by decide):PE X (.Name x pos) (tC v) :=
 fun _ _ _ H _ I h=>zlu I hg hm hv ⟨v,H,I,r,h⟩ hn hd
variable {a b:Expr} {ta tb:TE} {pos:Pos}
def PC (X:Cx) (op:CmpOp) (a b:Expr) (t:TE):Prop :=
 ∀ (pins:List (Addr×Obj)) (s:Shared) (σ:St) (H:Hp) (Q:VK),Inv X pins σ H s->t σ H Q ->
  wpAny (model X.prog X.w) X.A (eval a X.env) (fun v s₁=>wpAny (model X.prog X.w) X.A (eval b X.env) (fun u s₂=>wpAny (model X.prog X.w) X.A (compareOp op v u) (EP X pins σ Q) X.xe s₂) X.xe s₁) X.xe s
def tB (t:TE):TT:=fun σ H Q=>t σ H fun x H1=>∃ c,x = .bl c/\Q c H1
theorem zgn {op:CmpOp} {t:TE} (h:PC X op a b t) (h1:behindInMarks op b=false:=by first | exact nobehind _ (by decide) (by decide) | rfl):PT X (.Compare a [op] [b] pos) (tB t):=by
 intro pins s σ H Q I hw
 refine wpAny_isTrue_Compare1 (thn (h pins s σ H _ I hw) fun v s1 h1=>thn h1 fun u s2 h2=>thn h2 fun c s3 ⟨x,H1,I1,r1,q1⟩=>?_) h1
 obtain ⟨d,rfl,q⟩:=q1
 cases r1
 exact wpAny_truthy_bool ⟨H1,I1,q⟩
theorem zjo {e:Expr} {t:TE} (h:PE X e t) (he:∀ whole,isTrue e X.env whole=(do let v <- whole; standAt e.pos; holding [v] (truthy v)):=by intro _; rfl):PT X e (tB t):=by
 intro pins s σ H Q I hw
 refine isTrue_plain (thn (h pins s σ H _ I hw) fun v s1 ⟨x,H1,I1,r1,q1⟩=>?_) (he _)
 obtain ⟨d,rfl,q⟩:=q1
 cases r1
 exact wpAny_truthy_bool ⟨H1,I1,q⟩
variable {tA tB':TT} {rest:List Expr}
def tAnd (t u:TT):TT:=fun σ H Q=>t σ H fun c H1=>if c=true then u σ H1 Q else Q false H1
def tOr (t u:TT):TT:=fun σ H Q=>t σ H fun c H1=>if c=true then Q true H1 else u σ H1 Q
def tNot (t:TT):TT:=fun σ H Q=>t σ H fun c H1=>Q (!c) H1
theorem zef (ha:PT X a tA):PW X (.BoolOp .And [a] pos) tA:=by
 intro wh pins s σ H Q I h
 refine isTrue_and (thn (ha pins s σ H Q I h) fun c s1 e=>?_)
 cases c with
 | true=>exact isTrue_and_nil e
 | false=>exact e
theorem zgo (ha:PT X a tA):PW X (.BoolOp .Or [a] pos) tA:=by
 intro wh pins s σ H Q I h
 refine isTrue_or (thn (ha pins s σ H Q I h) fun c s1 e=>?_)
 cases c with
 | false=>exact isTrue_or_nil e
 | true=>exact e
theorem zdz (ha:PT X a tA) (hb:PW X (.BoolOp .And (b :: rest) pos) tB'):PW X (.BoolOp .And (a :: b :: rest) pos) (tAnd tA tB'):=by
 intro wh pins s σ H Q I h
 refine isTrue_and (thn (ha pins s σ H _ I h) fun c s1 ⟨H1,I1,q1⟩=>?_)
 cases c with
 | true=>exact hb wh pins s1 σ H1 Q I1 q1
 | false=>exact ⟨H1,I1,q1⟩
theorem pw_or (ha:PT X a tA) (hb:PW X (.BoolOp .Or (b :: rest) pos) tB'):PW X (.BoolOp .Or (a :: b :: rest) pos) (tOr tA tB'):=by
 intro wh pins s σ H Q I h
 refine isTrue_or (thn (ha pins s σ H _ I h) fun c s1 ⟨H1,I1,q1⟩=>?_)
 cases c with
 | true=>exact ⟨H1,I1,q1⟩
 | false=>exact hb wh pins s1 σ H1 Q I1 q1
theorem zhd (ha:PT X a tA):PT X (.UnaryOp .Not a pos) (tNot tA):=by
 intro pins s σ H Q I h
 exact isTrue_not (ha pins s σ H (fun c H1=>Q (!c) H1) I h)
def tAndV (ta tb:TE):TE:=fun σ H Q=>ta σ H fun x H1=>∃ c,x = .bl c/\if c=true then tb σ H1 Q else Q (.bl false) H1
def tOrV (ta tb:TE):TE:=fun σ H Q=>ta σ H fun x H1=>∃ c,x = .bl c/\if c=true then Q (.bl true) H1 else tb σ H1 Q
def tNotV (ta:TE):TE:=fun σ H Q=>ta σ H fun x H1=>∃ c,x = .bl c/\Q (.bl (!c)) H1
theorem zno {op} {t:TE} (h:PE X a t):PE X (.BoolOp op [a] pos) t:=fun pins s σ H Q I hw=>BoolOp_one (h pins s σ H Q I hw)
theorem znp (ha:PE X a ta) (hb:PE X (.BoolOp .And (b :: rest) pos) tb):PE X (.BoolOp .And (a :: b :: rest) pos) (tAndV ta tb):=by
 intro pins s σ H Q I h
 refine BoolOp_and (thn (ha pins s σ H _ I h) fun v s1 ⟨x,H1,I1,r1,q1⟩=>?_)
 obtain ⟨c,rfl,q1⟩:=q1
 cases r1
 refine wpAny_truthy_bool ?_
 cases c with
 | true=>exact hb pins s1 σ H1 Q I1 q1
 | false=>exact ⟨.bl false,H1,I1,rfl,q1⟩
def tIf (t:TT) (ta tb:TE):TE:=fun σ H Q=>t σ H fun c H1=>if c=true then ta σ H1 Q else tb σ H1 Q
theorem zlv {c:Expr} (hc:PT X c tA) (ha:PE X a ta) (hb:PE X b tb):PE X (.IfExp c a b pos) (tIf tA ta tb):=by
 intro pins s σ H Q I h
 refine wpAny_IfExp (thn (hc pins s σ H _ I h) fun d s1 ⟨H1,I1,q1⟩=>?_)
 cases d with
 | true=>exact ha pins s1 σ H1 Q I1 q1
 | false=>exact hb pins s1 σ H1 Q I1 q1
end
end L2
namespace L2
open PySem PySem.Spec PyProof.Rows
def SqL (K:PySem.W.Frag) (H:Hp) (a:Addr) (xs:List V):Prop :=
 Rd H a (.lst xs) \/
  ∃ (o:Obj) (its:Array Value) (n:Nat),K.lookup a=some o/\o.cls = .type "list" /\ o.dict=none/\o.data = .seq its n/\its.size<=sizeLine/\Vals xs its.toList
def SqT (K:PySem.W.Frag) (H:Hp) (a:Addr) (xs:List V):Prop :=
 Rd H a (.tup xs) \/
  ∃ (o:Obj) (its:Array Value) (n:Nat),K.lookup a=some o/\o.cls = .type "tuple" /\ o.data = .seq its n/\its.size<=sizeLine/\Vals xs its.toList
def absV:Value->Option V
 | .none=>some .non
 | .bool b=>some (.bl b)
 | .int i _=>some (.int i)
 | .str x _=>some (.str x)
 | .bytes b _=>some (.byt b)
 | .float b _=>some (.flt b)
 | .ref a=>some (.ref a)
 | .type n=>some (.ty n)
 | _=>none
theorem RelV.abs {x:V} {u:Value} (r:RelV x u):absV u=some x:=by
 cases x with
 | non=>cases r; rfl
 | bl _=>cases r; rfl
 | int _=>obtain ⟨t,rfl⟩:=r; rfl
 | str _=>obtain ⟨t,rfl⟩:=r; rfl
 | byt _=>obtain ⟨t,rfl⟩:=r; rfl
 | flt _=>obtain ⟨t,rfl⟩:=r; rfl
 | ref _=>cases r; rfl
 | ty _=>cases r; rfl
theorem RelV.inj {x y:V} {u:Value} (r:RelV x u) (q:RelV y u):x=y:=Option.some.inj (r.abs.symm.trans q.abs)
theorem Vals.inj:∀ {xs ys:List V} {us:List Value},Vals xs us->Vals ys us->xs=ys
 | _,_,_,.nil,.nil=>rfl
 | _,_,_,.cons r t,.cons r' t'=>by rw [r.inj r',Vals.inj t t']
section
variable {X:Cx} {pins:List (Addr×Obj)} {σ:St} {H:Hp} {s:Shared} {a:Addr} {xs ys:List V}
theorem SqL.of {K:PySem.W.Frag} (h:H a=some (.lst xs)):SqL K H a xs:=.inl (.inl h)
theorem SqT.of {K:PySem.W.Frag} (h:H a=some (.tup xs)):SqT K H a xs:=.inl (.inl h)
theorem Inv.list (I:Inv X pins σ H s) (h:SqL X.K H a xs):∃ its:List Value,Vals xs its/\PlainL s.heap a its.toArray/\xs.length<=sizeLine:=by
 rcases h with h | ⟨o,its,n,hk,hc,hd,hs,hz,r⟩
 ·obtain ⟨z,its,n,r,e⟩:=h.ok I.hok
  exact ⟨its,r,⟨_,n,e,rfl,rfl,rfl⟩,z⟩
 ·refine ⟨its.toList,r,⟨o,n,I.kIn a o hk,hc,hd,by simpa using hs⟩,?_⟩
  have e:=r.length
  simp only [Array.length_toList] at e
  omega
theorem Inv.tuple (I:Inv X pins σ H s) (h:SqT X.K H a xs):∃ its:List Value,Vals xs its/\IsTup s.heap a its.toArray/\xs.length<=sizeLine:=by
 rcases h with h | ⟨o,its,n,hk,hc,hs,hz,r⟩
 ·obtain ⟨z,its,r,p⟩:=h.ok I.hok
  exact ⟨its,r,p,z⟩
 ·refine ⟨its.toList,r,⟨o,I.kIn a o hk,hc,n,by simpa using hs⟩,?_⟩
  have e:=r.length
  simp only [Array.length_toList] at e
  omega
theorem Inv.list_inj (I:Inv X pins σ H s) (h:SqL X.K H a xs) (h':SqL X.K H a ys):xs=ys:=by
 obtain ⟨its,r,⟨o,n,e,_,_,d⟩,_⟩:=I.list h
 obtain ⟨its',r',⟨o',n',e',_,_,d'⟩,_⟩:=I.list h'
 rw [e] at e'; cases e'
 rw [d] at d'
 injection d' with d1 _
 have:its=its':=by simpa using congrArg Array.toList d1
 subst this
 exact r.inj r'
end
abbrev Cx.wish (X:Cx) (E:Value->Shared->Prop):Cx:={ X with xe:=E }
abbrev Cx.nox (X:Cx):Cx:=X.wish fun _ _=>False
theorem Cx.Ok.wish {X:Cx} (ok:X.Ok) (E:Value->Shared->Prop):(X.wish E).Ok :=
 ⟨ok.mod,ok.kind,ok.glob,ok.blt,ok.above,ok.inj,ok.has,ok.cab,ok.hd,ok.frames,ok.stk,ok.exf,ok.bs,ok.bsz,ok.noex,ok.exfs,ok.funs,ok.frf⟩
theorem Cx.Ok.unwish {X:Cx} {E:Value->Shared->Prop} (ok:(X.wish E).Ok):X.Ok :=
 ⟨ok.mod,ok.kind,ok.glob,ok.blt,ok.above,ok.inj,ok.has,ok.cab,ok.hd,ok.frames,ok.stk,ok.exf,ok.bs,ok.bsz,ok.noex,ok.exfs,ok.funs,ok.frf⟩
section
variable {X:Cx} {pins:List (Addr×Obj)} {σ:St} {H:Hp} {s:Shared} {E:Value->Shared->Prop}
theorem Inv.wish (I:Inv X pins σ H s) (E:Value->Shared->Prop):Inv (X.wish E) pins σ H s:=⟨I.ok.wish E,I.os,I.bare,I.base,I.loc,I.cell,I.free,I.freeC,I.pin,I.hok,I.len⟩
theorem Inv.unwish (I:Inv (X.wish E) pins σ H s):Inv X pins σ H s:=⟨I.ok.unwish,I.os,I.bare,I.base,I.loc,I.cell,I.free,I.freeC,I.pin,I.hok,I.len⟩
theorem SP.unwish {D:Ends} {f:Flow} {s':Shared} (h:SP (X.wish E) pins D f s'):SP X pins D f s':=by
 cases f with
 | next=>obtain ⟨σ',H',I,q⟩:=h; exact ⟨σ',H',I.unwish,q⟩
 | brk=>obtain ⟨σ',H',I,q⟩:=h; exact ⟨σ',H',I.unwish,q⟩
 | cont=>obtain ⟨σ',H',I,q⟩:=h; exact ⟨σ',H',I.unwish,q⟩
 | ret u=>obtain ⟨v,σ',H',I,r,q⟩:=h; exact ⟨v,σ',H',I.unwish,r,q⟩
theorem PSs.nox {st:List Stmt} {t:TS} (h:PSs X.nox st t):PSs X st t:=fun pins s σ H D I hw =>
 wpAny_mono (h pins s σ H D (I.wish _) hw) (fun _ _ q=>q.unwish) fun _ _ z=>False.elim z
end
section
variable {X:Cx} {st:Stmt} {rest:List Stmt} {t u:TS} {e:Expr} {te:TE} {pos:Pos}
def tNext:TS:=fun D σ H=>D.nx σ H
def tSeq (t u:TS):TS:=fun D σ H=>t { D with nx:=u D } σ H
theorem zas:PSs X [] tNext:=fun _ _ σ H _ I h=>wpAny_execs_nil ⟨σ,H,I,h⟩
theorem zae (h1:PS X st t) (h2:PSs X rest u):PSs X (st :: rest) (tSeq t u):=by
 intro pins s σ H D I h
 refine wpAny_execs_cons (thn (h1 pins s σ H { D with nx:=u D } I h) fun f s1 q=>?_)
 cases f with
 | next =>
  obtain ⟨σ',H',I',q⟩:=q
  exact h2 pins s1 σ' H' D I' q
 | ret v=>exact q
 | brk=>exact q
 | cont=>exact q
theorem zaf (h1:PS X st t):PSs X [st] t:=by
 intro pins s σ H D I h
 refine wpAny_execs_cons (thn (h1 pins s σ H D I h) fun f s1 q=>?_)
 cases f with
 | next=>exact wpAny_execs_nil q
 | ret v=>exact q
 | brk=>exact q
 | cont=>exact q
theorem Inv.quiet {pins:List (Addr×Obj)} {σ:St} {H:Hp} {s:Shared} (I:Inv X pins σ H s):interactive X.env=false:=by simp [interactive,I.ok.kind]
def tDrop (te:TE):TS:=fun D σ H=>te σ H fun _ H1=>D.nx σ H1
theorem zbj (he:PE X e te) (hs:swapsWith e none pos.line X.env=pure false:=by rfl):PS X (.Expr e pos) (tDrop te):=by
 intro pins s σ H D I h
 exact wpAny_Expr_any (thn (he pins s σ H _ I h) fun v s1 ⟨x,H1,I1,r1,q1⟩=>⟨σ,H1,I1,q1⟩) I.quiet hs
def tRet (te:TE):TS:=fun D σ H=>te σ H D.rt
theorem zat (he:PE X e te):PS X (.Return (some e) pos) (tRet te):=by
 intro pins s σ H D I h
 exact wpAny_Return_some (thn (he pins s σ H _ I h) fun v s1 ⟨x,H1,I1,r1,q1⟩=>⟨x,σ,H1,I1,r1,q1⟩)
def tRetN:TS:=fun D _ H=>D.rt .non H
def tIfS (c:TT) (t u:TS):TS:=fun D σ H=>c σ H fun b H1=>if b=true then t D σ H1 else u D σ H1
theorem ps_if {c:Expr} {a b:List Stmt} {tc:TT} (hc:PT X c tc) (ha:PSs X a t) (hb:PSs X b u):PS X (.If c a b pos) (tIfS tc t u):=by
 intro pins s σ H D I h
 refine wpAny_If (thn (hc pins s σ H _ I h) fun d s1 ⟨H1,I1,q1⟩=>?_)
 cases d with
 | true=>exact ha pins s1 σ H1 D I1 q1
 | false=>exact hb pins s1 σ H1 D I1 q1
def zti:TS:=fun _ _ _=>False
theorem zpu:PS X st zti:=fun _ _ _ _ _ _ h=>h.elim
end
abbrev TG:=V->St->Hp->(St->Hp->Prop)->Prop
abbrev TGs:=List V->St->Hp->(St->Hp->Prop)->Prop
def PG (X:Cx) (target:Expr) (t:TG):Prop :=
 ∀ (pins:List (Addr×Obj)) (s:Shared) (σ:St) (H:Hp) (v:V) (u:Value) (Q:St->Hp->Prop),Inv X pins σ H s->RelV v u->t v σ H Q ->
  wpAny (model X.prog X.w) X.A (assign target X.env u) (fun _ s'=>∃ σ' H',Inv X pins σ' H' s'/\Q σ' H') X.xe s
def PGs (X:Cx) (ts:List Expr) (t:TGs):Prop :=
 ∀ (pins:List (Addr×Obj)) (s:Shared) (σ:St) (H:Hp) (vs:List V) (us:List Value) (Q:St->Hp->Prop),Inv X pins σ H s->Vals vs us->t vs σ H Q ->
  wpAny (model X.prog X.w) X.A (assignInOrder ((assignEach ts X.env).map (·.2)) us) (fun _ s'=>∃ σ' H',Inv X pins σ' H' s'/\Q σ' H') X.xe s
section
variable {X:Cx} {pos:Pos}
def gName (i:Nat):TG:=fun v σ H Q=>Q (σ.set i (some v)) H
theorem zdu {i:Nat} {x:Str} (hN:X.N.Nodup) (hi:X.N[i]? = some x) (hx:Loc X.env.scope x) (hf:X.fn x=true\/X.env.scope.names.lookup x=some .local:=by first | exact .inl rfl | exact .inr rfl | assumption):PG X (.Name x pos) (gName i):=by
 intro pins s σ H v u Q I r h
 exact wpAny_assign_Name (zgy I hN hi hx r (fun s' I'=>⟨_,H,I',h⟩) hf)
def gNil:TGs:=fun vs σ H Q=>vs = []/\Q σ H
def gCons (t:TG) (u:TGs):TGs:=fun vs σ H Q=>∃ v r,vs=v :: r/\t v σ H fun σ' H'=>u r σ' H' Q
theorem zla:PGs X [] gNil:=by
 intro pins s σ H vs us Q I r h
 obtain ⟨e,h⟩:=h
 subst e
 cases r
 exact assignInOrder_nil ⟨σ,H,I,h⟩
theorem zey {e:Expr} {es:List Expr} {t:TG} {u:TGs} (h1:PG X e t) (h2:PGs X es u)
    (hs:(assignEach (e :: es) X.env).map (·.2)=assign e X.env :: (assignEach es X.env).map (·.2):=by rfl):PGs X (e :: es) (gCons t u):=by
  intro pins s σ H vs us Q I r h
  obtain ⟨v,vr,e1,h⟩:=h
  subst e1
  cases r with
  | cons r rr =>
    rw [hs]
    refine assignInOrder_cons (thn (h1 pins s σ H _ _ _ I r h) fun _ s1 ⟨σ1,H1,I1,q1⟩=>?_)
    exact h2 pins s1 σ1 H1 _ _ Q I1 rr q1
def gTup (K:PySem.W.Frag) (n:Nat) (t:TGs):TG:=fun v σ H Q=>∃ a xs,v = .ref a/\SqT K H a xs/\xs.length=n/\t xs σ H Q
theorem ztj {es:List Expr} {k:Nat} {t:TGs} {n:Nat} (hc:X.calm=true) (h:PGs X es t)
    (hn:(assignEach es X.env).length=n:=by rfl) (hst:(assignEach es X.env).findIdx? (·.1)=none:=by rfl):PG X (.Tuple es k pos) (gTup X.K n t):=by
  intro pins s σ H v u Q I r hw
  obtain ⟨a,xs,e1,hq,hl,hw⟩:=hw
  subst e1
  cases r
  obtain ⟨its,rv,ht,hz⟩:=I.tuple hq
  refine assign_Tuple_tuple (I.ok.hd hc) ht (by simp [hn,<- hl,rv.length]) hst fun h' hx=>?_
  have I1:Inv X pins σ H { s with heap:=h' }:=I.kept (t':=s.toks) fun b o e=>hx b o (Nat.ne_of_lt (Heap.lt_size e)) e
  exact h pins _ σ H xs _ Q I1 (by simpa using rv) hw
def tAsg (te:TE) (g:TG):TS:=fun D σ H=>te σ H fun x H1=>g x σ H1 D.nx
theorem zau {i:Nat} {x:Str} {e:Expr} {te:TE} {pos':Pos} (hN:X.N.Nodup) (hi:X.N[i]? = some x) (hx:Loc X.env.scope x) (he:PE X e te) (hs:swapsWith e (some (.Name x pos')) pos.line X.env=pure false:=by rfl) (hf:X.fn x=true\/X.env.scope.names.lookup x=some .local:=by first | exact .inl rfl | exact .inr rfl | assumption) :
    PS X (.Assign [.Name x pos'] e pos) (tAsg te (gName i)):=by
  intro pins s σ H D I h
  refine wpAny_Assign_Name (thn (he pins s σ H _ I h) fun v s1 ⟨y,H1,I1,r1,q1⟩=>?_) hs
  exact zgy I1 hN hi hx r1 (fun s2 I2=>⟨_,H1,I2,q1⟩) hf
def tPar (i j:Nat) (ta:TA):TS:=fun D σ H=>ta σ H fun vs H1=>∃ v w,vs = [v,w]/\D.nx ((σ.set i (some v)).set j (some w)) H1
end
section
variable {X:Cx} {pos:Pos}
def znq (c:TT) (tb:TS):TS:=fun D σ H=>∃ W:Nat->St->Hp->Prop,(∃ m,W m σ H)/\∀ m σ H,W m σ H ->
 c σ H fun b H1=>if b=true then ∃ N:St->Hp->Prop,(∀ σ' H',N σ' H'->∃ m',m' < m/\W m' σ' H')/\tb { D with nx:=N,ct:=N,bk:=D.nx } σ H1 else D.nx σ H1
theorem zgz {c:Expr} {body:List Stmt} {tc:TT} {tb:TS} (hp:PassesOwn (model X.prog X.w) X.A X.env X.xe) (hc:PT X c tc) (hb:PSs X body tb):PS X (.While c body [] pos) (znq tc tb):=by
 intro pins s σ H D I h
 obtain ⟨W,⟨m0,w0⟩,turn⟩:=h
 refine wpAny_While (codeAny_whileLoop (fun n s'=>∃ σ' H',Inv X pins σ' H' s'/\W n σ' H') ?_ m0 ⟨σ,H,I,w0⟩)
 rintro n s1 ⟨σ1,H1,I1,w1⟩
 refine wpAny_passesOwn hp (thn (hc pins s1 σ1 H1 _ I1 (turn n σ1 H1 w1)) fun b s2 ⟨H2,I2,q2⟩=>?_)
 cases b with
 | true =>
  obtain ⟨N,hN,q2⟩:=q2
  rw [if_pos rfl]
  refine wpAny_passesOwn hp (thn (hb pins s2 σ1 H2 _ I2 q2) fun f s3 q3=>?_)
  cases f with
  | next =>
   obtain ⟨σ3,H3,I3,n3⟩:=q3
   obtain ⟨m',hm,w3⟩:=hN σ3 H3 n3
   exact ⟨m',hm,σ3,H3,I3,w3⟩
  | cont =>
   obtain ⟨σ3,H3,I3,n3⟩:=q3
   obtain ⟨m',hm,w3⟩:=hN σ3 H3 n3
   exact ⟨m',hm,σ3,H3,I3,w3⟩
  | brk=>exact q3
  | ret v=>exact q3
 | false =>
  rw [if_neg Bool.false_ne_true]
  exact wpAny_execs_nil ⟨σ1,H2,I2,q2⟩
end
structure It where
 go:Nat->Hp->Prop
 yld:Nat->Hp->V->Hp->Prop
 stop:Nat->Hp->Prop
def FpOk (X:Cx) (pins:List (Addr×Obj)) (H:Hp) (b:Addr):Prop :=
 H b=none/\b≠X.env.locals/\b ∉ X.fs/\(b∈X.ex\/X.s₀.heap.objs.size<=b)/\(∀ x c,X.env.cells.lookup x=some c->c≠b)/\∀ p∈X.pn++pins,p.1≠b
theorem Inv.fpOk {X:Cx} {pins:List (Addr×Obj)} {σ:St} {H H':Hp} {s:Shared} {b:Addr} (I:Inv X pins σ H s) (hb:s.heap.objs.size<=b) (hn:H' b=none):FpOk X pins H' b:=by
 refine ⟨hn,Nat.ne_of_gt (Nat.lt_of_lt_of_le I.lt hb),I.nofs hb,.inr (Nat.le_trans I.sz hb),fun x c e z=>?_,fun p hp z=>?_⟩
 ·obtain ⟨v,q⟩:=I.cell x c e
  exact absurd (Nat.lt_of_lt_of_le q.lt (by rw [z]; exact hb)) (Nat.lt_irrefl _)
 ·exact absurd (Nat.lt_of_lt_of_le (Heap.lt_size (I.pin p hp).1) (by rw [z]; exact hb)) (Nat.lt_irrefl _)
structure Turn (P:Program) (w:World) (K:PySem.W.Frag) (tg:Expr) (J:It) (fp:List Addr) (it:Addr) (tn:Nat->Heap->Prop):Prop where
 mem:it∈fp
 obj:∀ i h,tn i h->∀ b∈fp,∃ o,h.get? b=some o/\∀ v,o.data≠.cell v
 keep:∀ i h h',tn i h->(∀ b∈fp,∀ o,h.get? b=some o->h'.get? b=some o)->tn i h'
 item:∀ (X:Cx),X.prog=P->X.w=w->X.K=K->X.calm=true->∀ (i:Nat) (pins:List (Addr×Obj)) (s:Shared) (σ:St) (H:Hp) (E:Value->Shared->Prop),Inv X pins σ H s->(∀ b∈fp,FpOk X pins H b)->tn i s.heap->J.go i H ->
  wpAny (model P w) X.A (pyNext (.ref it)) (fun r s1=>∃ u,r=some u /\
   wpAny (model P w) X.A (letOwnedTupleGo tg (.ref it) u) (fun _ s2=>∃ x H',Inv X pins σ H' s2/\RelV x u/\J.yld i H x H'/\tn (i+1) s2.heap/\∀ b∈fp,H' b=none) E s1) E s
 done:∀ (X:Cx),X.prog=P->X.w=w->X.K=K->X.calm=true->∀ (i:Nat) (pins:List (Addr×Obj)) (s:Shared) (σ:St) (H:Hp) (E:Value->Shared->Prop),Inv X pins σ H s->(∀ b∈fp,FpOk X pins H b)->tn i s.heap->J.stop i H ->
  wpAny (model P w) X.A (pyNext (.ref it)) (fun r s1=>r=none/\Inv X pins σ H s1) E s
 self:∀ (A:Around) (i:Nat) (s:Shared) (Q:Value->Shared->Prop) (E:Value->Shared->Prop),tn i s.heap->Q (.ref it) s->wpAny (model P w) A (pyIter (.ref it)) Q E s
abbrev TI:=St->Hp->(It->Hp->Prop)->Prop
def PIE (X:Cx) (pins:List (Addr×Obj)) (σ:St) (tg:Expr) (R:It->Hp->Prop) (itv:Value) (s2:Shared):Prop :=
 ∃ (it:Addr) (fp:List Addr) (tn:Nat->Heap->Prop) (J:It) (H':Hp),itv = .ref it/\Inv X pins σ H' s2/\Turn X.prog X.w X.K tg J fp it tn/\tn 0 s2.heap/\(∀ b∈fp,FpOk X pins H' b)/\R J H'
def PI (X:Cx) (tg iter:Expr) (wi:TI):Prop :=
 ∀ (pins:List (Addr×Obj)) (s:Shared) (σ:St) (H:Hp) (R:It->Hp->Prop),Inv X pins σ H s->wi σ H R ->
  wpAny (model X.prog X.w) X.A (eval iter X.env) (fun v s1=>wpAny (model X.prog X.w) X.A (pyIter v) (PIE X pins σ tg R) X.xe s1) X.xe s
theorem go_of {M:Model} {A:Around} {E:Value->Shared->Prop} {s:Shared} {tg:Expr} {it:Addr} {u:Value} {o:Obj} {n:String} {vs:Array Value} {Q:Unit->Shared->Prop} (ho:s.heap.get? it=some o) (hc:o.cls = .type n) (hd:o.data = .fields vs)
    (hn:["enumerate", "zip", "dict_itemiterator", "dict_reverseitemiterator", "odict_iterator", "itertools.zip_longest", "itertools.pairwise"].contains n=false) (hQ:Q () s):wpAny M A (letOwnedTupleGo tg (.ref it) u) Q E s:=by
  unfold letOwnedTupleGo
  cases tg <;> first
    | exact wpAny_pure hQ
    | (cases u <;> first
        | exact wpAny_pure hQ
        | (refine wpAny_bind (wpAny_load ho ?_)
           rw [hc,hd]
           show wpAny M A (if (["enumerate", "zip", "dict_itemiterator", "dict_reverseitemiterator", "odict_iterator", "itertools.zip_longest", "itertools.pairwise"].contains n && vs[0]? == some (rawInt _))=true then _ else _) Q E s
           rw [if_neg (by intro h; rw [hn,Bool.false_and] at h; cases h)]
           exact wpAny_pure hQ))
def Itl (K:PySem.W.Frag) (a:Addr):It :=
 ⟨fun i H=>∃ xs x,SqL K H a xs/\xs[i]? = some x,fun i H x H'=>H'=H/\∀ xs,SqL K H a xs->xs[i]? = some x,fun i H=>∃ xs,SqL K H a xs/\xs.length<=i⟩
def Itt (K:PySem.W.Frag) (a:Addr):It :=
 ⟨fun i H=>∃ xs x,SqT K H a xs/\xs[i]? = some x,fun i H x H'=>H'=H/\∀ xs,SqT K H a xs->xs[i]? = some x,fun i H=>∃ xs,SqT K H a xs/\xs.length<=i⟩
def Itr (lo:Int) (n:Nat):It:=⟨fun i _=>i<n,fun i H x H'=>H'=H/\x = .int (lo+i),fun i _=>n<=i⟩
theorem znr {P:Program} {w:World} {K:PySem.W.Frag} {tg:Expr} (a it:Addr):Turn P w K tg (Itl K a) [it] it (fun i h=>h.IsListIter it a i) where
 mem:=by simp
 obj:=fun i h st b hb=>by
  have e:b=it:=by simpa using hb
  subst e
  obtain ⟨o,e,c,d⟩:=st
  exact ⟨o,e,fun v z=>by rw [d] at z; cases z⟩
 keep:=fun i h h' st k=>st.at fun o e=>k it (by simp) o e
 item:=by
  intro X hP hw hK hc i pins s σ H E I hf st hg
  subst hP hw hK
  obtain ⟨xs,x,hq,hx⟩:=hg
  obtain ⟨its,rv,p,hz⟩:=I.list hq
  obtain ⟨u,hu,ru⟩:=rv.get hx
  obtain ⟨f0,f1,f2,f3,f4,f5⟩:=hf it (by simp)
  refine wpAny_pyNext_list_item st p.isList (x:=u) (by simpa using hu) fun h' st' sb=>?_
  have I1:Inv X pins σ H { s with heap:=h' }:=I.turned (t':=s.toks) (fun b o hb e=>(sb.2 b hb).trans e) f0 f1 f3 f4 f5
  obtain ⟨o,e,c,d⟩:=id st'
  exact ⟨u,rfl,go_of (s:={ s with heap:=h' }) e c d (by decide) ⟨x,H,I1,ru,⟨rfl,fun ys hy=>by rw [I.list_inj hy hq]; exact hx⟩,st',fun b hb=>(hf b hb).1⟩⟩
 done:=by
  intro X hP hw hK hc i pins s σ H E I hf st hg
  subst hP hw hK
  obtain ⟨xs,hq,hx⟩:=hg
  obtain ⟨its,rv,p,hz⟩:=I.list hq
  obtain ⟨f0,f1,f2,f3,f4,f5⟩:=hf it (by simp)
  have hl:=rv.length
  exact wpAny_pyNext_list_end (I.ok.hd hc) st p.isList (by simp; omega) fun h' eb=>⟨rfl,I.turned (t':=s.toks) (fun b o hb e=>eb b o hb e) f0 f1 f3 f4 f5⟩
 self:=fun _ _ _ _ _ st h=>wpAny_pyIter_listiter st h
theorem zmu {P:Program} {w:World} {K:PySem.W.Frag} {tg:Expr} (it:Addr) (lo:Int) (n:Nat):Turn P w K tg (Itr lo n) [it] it (fun i h=>IsRangeIter h it (lo+(i:Nat)*1) ((n:Int)-(i:Nat)) 1) where
 mem:=by simp
 obj:=fun i h st b hb=>by
  have e:b=it:=by simpa using hb
  subst e
  exact ⟨_,st,fun v z=>by
   have z':Data.fields _=Data.cell v:=z
   cases z'⟩
 keep:=fun i h h' st k=>k it (by simp) _ st
 item:=by
  intro X hP hw hK hc i pins s σ H E I hf st hg
  subst hP hw hK
  obtain ⟨f0,f1,f2,f3,f4,f5⟩:=hf it (by simp)
  have W:=Walks.range (prog:=X.prog) (w:=X.w) (I.ok.hd hc) it lo 1 n
  refine W.item i s _ _ hg st fun v h' tk hv st' kk=>?_
  obtain ⟨t,rfl⟩:=hv
  have I1:Inv X pins σ H { s with heap:=h',toks:=tk }:=I.turned (fun b o hb e=>kk b o (by simpa using hb) e) f0 f1 f3 f4 f5
  refine ⟨_,rfl,go_of (s:={ s with heap:=h',toks:=tk }) (n := "range_iterator") st' rfl rfl (by decide) ⟨.int (lo+i),H,I1,⟨t,?_⟩,⟨rfl,rfl⟩,st',fun b hb=>(hf b hb).1⟩⟩
  rw [Int.mul_one]
 done:=by
  intro X hP hw hK hc i pins s σ H E I hf st hg
  subst hP hw hK
  obtain ⟨f0,f1,f2,f3,f4,f5⟩:=hf it (by simp)
  exact wpAny_pyNext_range_end (I.ok.hd hc) st (by have:n<=i:=hg; omega) fun h' eb=>⟨rfl,I.turned (t':=s.toks) (fun b o hb e=>eb b o hb e) f0 f1 f3 f4 f5⟩
 self:=fun _ _ _ _ _ st h=>wpAny_pyIter_rangeiter st h
end L2
namespace L2
open PySem PySem.Spec PyProof.Rows
section
variable {X:Cx} {tg:Expr}
def iList (K:PySem.W.Frag) (tl:TE):TI:=fun σ H R=>tl σ H fun x H1=>∃ a,x = .ref a/\(∃ xs,SqL K H1 a xs)/\R (Itl K a) H1
def iTup (K:PySem.W.Frag) (tl:TE):TI:=fun σ H R=>tl σ H fun x H1=>∃ a,x = .ref a/\(∃ xs,SqT K H1 a xs)/\R (Itt K a) H1
theorem zru {l:Expr} {tl:TE} (hl:PE X l tl):PI X tg l (iList X.K tl):=by
 intro pins s σ H R I h
 refine thn (hl pins s σ H _ I h) fun v s1 ⟨x,H1,I1,r1,q1⟩=>?_
 obtain ⟨a,e,⟨xs,hq⟩,q⟩:=q1
 subst e
 cases r1
 obtain ⟨its,rv,p,hz⟩:=I1.list hq
 refine wpAny_pyIter_list p.isList ?_
 refine ⟨s1.heap.objs.size,[s1.heap.objs.size],_,_,H1,rfl,I1.kept (t':=s1.toks) fun b o e=>Heap.get?_push_of_some _ e,znr a _,⟨_,Heap.get?_push_size _ rfl,rfl,rfl⟩,fun b hb=>?_,q⟩
 have e:b=s1.heap.objs.size:=by simpa using hb
 subst e
 exact I1.fpOk (Nat.le_refl _) (I1.hok.fresh (Nat.le_refl _))
theorem zpv {pins:List (Addr×Obj)} {σ:St} {H:Hp} {s:Shared} {R:It->Hp->Prop} {E:Value->Shared->Prop} {lo hi:Int} {t u v:Tok} {tk:Nat} (I:Inv X pins σ H s) (h1:-(2 ^ 62)<=lo) (h2:lo<2 ^ 62) (h3:-(2 ^ 62)<=hi) (h4:hi<2 ^ 62)
    (q:R (Itr lo (hi-lo).toNat) H):wpAny (model X.prog X.w) X.A (pyIter (.ref s.heap.objs.size)) (PIE X pins σ tg R) E { s with heap:=s.heap.push { cls:=.type "range", data:=.fields #[.int lo t,.int hi u,.int 1 v] },toks:=tk }:=by
  refine wpAny_pyIter_range (IsRange.new ..) (small_one h1 h2 h3 h4) ?_
  have I1:Inv X pins σ H { s with heap:=s.heap.push { cls:=.type "range", data:=.fields #[.int lo t,.int hi u,.int 1 v] },toks:=tk }:=I.kept fun b o e=>Heap.get?_push_of_some _ e
  refine ⟨(s.heap.push { cls:=.type "range", data:=.fields #[.int lo t,.int hi u,.int 1 v] }).objs.size,[(s.heap.push { cls:=.type "range", data:=.fields #[.int lo t,.int hi u,.int 1 v] }).objs.size],_,_,H,rfl,
    I1.kept (t':=tk) fun b o e=>Heap.get?_push_of_some _ e,zmu _ lo (hi-lo).toNat,?_,fun b hb=>?_,q⟩
  · have e1:lo+((0:Nat):Int)*1=lo:=by simp
    have e2:(((hi-lo).toNat:Nat):Int)-((0:Nat):Int)=Builtin.Range.rangeSize lo hi 1:=by rw [rangeSize_one]; split <;> omega
    show IsRangeIter _ _ (lo+((0:Nat):Int)*1) ((((hi-lo).toNat:Nat):Int)-((0:Nat):Int)) 1
    rw [e1,e2]
    exact Heap.get?_push_size _ rfl
  · have e:b=(s.heap.push { cls:=.type "range", data:=.fields #[.int lo t,.int hi u,.int 1 v] }).objs.size:=by simpa using hb
    subst e
    exact I1.fpOk (Nat.le_refl _) (I1.hok.fresh (Nat.le_refl _))
def iRng1 (ta:TA):TI:=fun σ H R=>ta σ H fun vs H1=>∃ j:Int,vs = [.int j]/\-(2 ^ 62)<=j/\j<2 ^ 62/\R (Itr 0 j.toNat) H1
def iRng2 (ta:TA):TI:=fun σ H R=>ta σ H fun vs H1=>∃ i j:Int,vs = [.int i,.int j]/\(-(2 ^ 62)<=i/\i<2 ^ 62/\-(2 ^ 62)<=j/\j<2 ^ 62)/\R (Itr i (j-i).toNat) H1
theorem zjp {a:Expr} {ta:TA} {p pos:Pos} (hg:Gl X "range") (hm:X.mg "range" = none) (ha:PA X [a] ta) (hs:starEach [a] X.env = [(false,eval a X.env)]:=by rfl):PI X tg (.Call (.Name "range" p) [a] [] pos) (iRng1 ta):=by
 intro pins s σ H R I h
 refine Call_ (zlu I hg hm boot_range (PyProof.Rows.callWith_type1 (thn (ha pos pins s σ H _ I h) fun us s1 ⟨vs,H1,I1,r1,q1⟩=>?_) hs rfl))
 obtain ⟨j,e,q1,q2,q⟩:=q1
 subst e
 cases r1 with
 | cons r rr =>
  cases rr
  obtain ⟨t,rfl⟩:=r
  exact call_range_1 (zpv I1 (by omega) (by omega) q1 q2 (by simpa using q))
def tFor (wi:TI) (g:TG) (tb:TS):TS:=fun D σ H=>wi σ H fun J H1=>∃ W:Nat->Nat->St->Hp->Prop,(∃ m,W 0 m σ H1)/\∀ i m σ H,W i m σ H ->
 (J.stop i H/\D.nx σ H)\/(J.go i H/\∃ N:St->Hp->Prop,(∀ σ' H',N σ' H'->∃ m',m' < m/\W (i+1) m' σ' H')/\∀ x H',J.yld i H x H'->g x σ H' fun σ2 H2=>tb { D with nx:=N,ct:=N,bk:=D.nx } σ2 H2)
def zii (fp:List Addr) (h:Heap):List (Addr×Obj):=fp.filterMap fun b=>(h.get? b).map fun o=>(b,o)
theorem zdq {fp:List Addr} {h:Heap} {b:Addr} {o:Obj} (hb:b∈fp) (e:h.get? b=some o):(b,o)∈zii fp h:=List.mem_filterMap.mpr ⟨b,hb,by rw [e]; rfl⟩
theorem zns {fp:List Addr} {h:Heap} {p:Addr×Obj} (hp:p∈zii fp h):p.1∈fp/\h.get? p.1=some p.2:=by
 obtain ⟨b,hb,e⟩:=List.mem_filterMap.mp hp
 cases q:h.get? b with
 | none=>rw [q] at e; cases e
 | some o =>
  rw [q] at e
  have e':(b,o)=p:=Option.some.inj e
  subst e'
  exact ⟨hb,q⟩
theorem Inv.pinned {pins:List (Addr×Obj)} {σ:St} {H:Hp} {s:Shared} {fp:List Addr} (I:Inv X pins σ H s) (hf:∀ b∈fp,FpOk X pins H b) (ho:∀ b∈fp,∃ o,s.heap.get? b=some o/\∀ v,o.data≠.cell v):Inv X (pins++zii fp s.heap) σ H s :=
 I.pins_of fun p hp=>(List.mem_append.mp hp).elim (fun z=>I.pin p (List.mem_append_right _ z)) fun z=>by
  obtain ⟨hb,e⟩:=zns z
  obtain ⟨f0,f1,f2,_⟩:=hf p.1 hb
  obtain ⟨o,e',d⟩:=ho p.1 hb
  rw [e] at e'; cases e'
  exact ⟨e,f0,f1,f2,d⟩
theorem Inv.unpinned {pins pl:List (Addr×Obj)} {σ:St} {H:Hp} {s:Shared} (I:Inv X (pins++pl) σ H s):Inv X pins σ H s:=I.pins_of fun p hp=>I.pin p (List.mem_append_right _ (List.mem_append_left _ hp))
theorem zrb {iter:Expr} {body:List Stmt} {wi:TI} {g:TG} {tb:TS} {pos:Pos} (hp:PassesOwn (model X.prog X.w) X.A X.env X.xe) (hc:X.calm=true) (hi:PI X tg iter wi) (hg:PG X tg g) (hb:PSs X body tb)
    (hs:∀ x,foldedSetIterable iter X.env x=pure x:=by intro _; rfl):PS X (.For tg iter body [] pos) (tFor wi g tb):=by
  intro pins s σ H D I h
  refine wpAny_For (thn (hi pins s σ H _ I h) fun v s1 h1=>thn h1 fun itv s2 h2=>?_) hs
  obtain ⟨it,fp,tn,J,H2,e,I2,T,st2,f2,W,⟨m0,w0⟩,turn⟩:=h2
  subst e
  have stat:∀ {H':Hp},(∀ b∈fp,H' b=none)->∀ b∈fp,FpOk X pins H' b:=fun hn b hb=>⟨hn b hb,(f2 b hb).2⟩
  refine codeAny_forLoop_any (fun n s'=>∃ i σ' H',Inv X pins σ' H' s'/\tn i s'.heap/\(∀ b∈fp,H' b=none)/\W i n σ' H') ?_ m0 ⟨0,σ,H2,I2,st2,fun b hb=>(f2 b hb).1,w0⟩
  rintro n s3 ⟨i,σ3,H3,I3,st3,fr3,w3⟩
  rcases turn i n σ3 H3 w3 with ⟨stop,qn⟩ | ⟨go,N,hN,step⟩
  · refine wpAny_passesOwn hp (thn (T.done X rfl rfl rfl hc i pins s3 σ3 H3 X.xe I3 (stat fr3) st3 stop) fun r s4 ⟨hr,I4⟩=>?_)
    subst hr
    exact wpAny_execs_nil ⟨σ3,H3,I4,qn⟩
  · refine wpAny_passesOwn hp (thn (T.item X rfl rfl rfl hc i pins s3 σ3 H3 X.xe I3 (stat fr3) st3 go) fun r s4 ⟨u,hr,h4⟩=>?_)
    subst hr
    refine wpAny_passesOwn hp (thn h4 fun _ s5 ⟨x,H5,I5,r5,y5,st5,fr5⟩=>?_)
    have I5':=I5.pinned (stat fr5) (T.obj _ _ st5)
    refine wpAny_passesOwn hp (thn (hg _ s5 σ3 H5 x u _ I5' r5 (step x H5 y5)) fun _ s6 ⟨σ6,H6,I6,q6⟩=>?_)
    refine wpAny_passesOwn hp (thn (hb _ s6 σ6 H6 _ I6 q6) fun f s7 q7=>?_)
    have again:∀ {σ7:St} {H7:Hp},Inv X (pins++zii fp s5.heap) σ7 H7 s7->N σ7 H7->∃ m,m<n/\∃ i σ' H',Inv X pins σ' H' s7/\tn i s7.heap/\(∀ b∈fp,H' b=none)/\W i m σ' H':=fun {σ7 H7} I7 n7=>by
      obtain ⟨m',hm,w7⟩:=hN σ7 H7 n7
      refine ⟨m',hm,i+1,σ7,H7,I7.unpinned,T.keep _ _ _ st5 fun b hb o e=>(I7.pin (b,o) (List.mem_append_right _ (List.mem_append_right _ (zdq hb e)))).1,fun b hb=>?_,w7⟩
      obtain ⟨o,e,d⟩:=T.obj _ _ st5 b hb
      exact (I7.pin (b,o) (List.mem_append_right _ (List.mem_append_right _ (zdq hb e)))).2.1
    cases f with
    | next=>obtain ⟨σ7,H7,I7,n7⟩:=q7; exact again I7 n7
    | cont=>obtain ⟨σ7,H7,I7,n7⟩:=q7; exact again I7 n7
    | brk=>obtain ⟨σ7,H7,I7,q7⟩:=q7; exact ⟨σ7,H7,I7.unpinned,q7⟩
    | ret v=>obtain ⟨x7,σ7,H7,I7,r7,q7⟩:=q7; exact ⟨x7,σ7,H7,I7.unpinned,r7,q7⟩
end
theorem zpw {K:PySem.W.Frag} {a:Addr} {xs:List V} {g:TG} {tb:TS} {D:Ends} {σ:St} {H:Hp} (Pv:Nat->St->Hp->Prop) (h0:Pv 0 σ H) (hl:∀ i σ H,i<=xs.length->Pv i σ H->SqL K H a xs)
    (hs:∀ i x σ H,xs[i]? = some x->Pv i σ H->g x σ H fun σ2 H2=>tb { D with nx:=Pv (i+1),ct:=Pv (i+1),bk:=D.nx } σ2 H2) (hd:∀ σ H,Pv xs.length σ H->D.nx σ H) :
    ∃ W:Nat->Nat->St->Hp->Prop,(∃ m,W 0 m σ H)/\∀ i m σ H,W i m σ H ->
      ((Itl K a).stop i H/\D.nx σ H)\/((Itl K a).go i H/\∃ N:St->Hp->Prop,(∀ σ' H',N σ' H'->∃ m',m' < m/\W (i+1) m' σ' H')/\∀ x H',(Itl K a).yld i H x H'->g x σ H' fun σ2 H2=>tb { D with nx:=N,ct:=N,bk:=D.nx } σ2 H2):=by
  refine ⟨fun i m σ H=>m=xs.length-i/\i<=xs.length/\Pv i σ H,⟨xs.length,by simp,Nat.zero_le _,h0⟩,?_⟩
  rintro i m σ H ⟨rfl,hi,p⟩
  have q:=hl i σ H hi p
  by_cases hlt:i<xs.length
  · refine .inr ⟨⟨xs,xs[i],q,by simp [hlt]⟩,Pv (i+1),fun σ' H' p'=>⟨xs.length-(i+1),by omega,rfl,hlt,p'⟩,fun x H' y=>?_⟩
    obtain ⟨e,y⟩:=y
    subst e
    exact hs i x σ _ (y xs q) p
  · have e:i=xs.length:=by omega
    subst e
    exact .inl ⟨⟨xs,q,Nat.le_refl _⟩,hd σ H p⟩
theorem znt {lo:Int} {n:Nat} {g:TG} {tb:TS} {D:Ends} {σ:St} {H:Hp} (Pv:Nat->St->Hp->Prop) (h0:Pv 0 σ H)
    (hs:∀ i σ H,i<n->Pv i σ H->g (.int (lo+i)) σ H fun σ2 H2=>tb { D with nx:=Pv (i+1),ct:=Pv (i+1),bk:=D.nx } σ2 H2) (hd:∀ σ H,Pv n σ H->D.nx σ H) :
    ∃ W:Nat->Nat->St->Hp->Prop,(∃ m,W 0 m σ H)/\∀ i m σ H,W i m σ H ->
      ((Itr lo n).stop i H/\D.nx σ H)\/((Itr lo n).go i H/\∃ N:St->Hp->Prop,(∀ σ' H',N σ' H'->∃ m',m' < m/\W (i+1) m' σ' H')/\∀ x H',(Itr lo n).yld i H x H'->g x σ H' fun σ2 H2=>tb { D with nx:=N,ct:=N,bk:=D.nx } σ2 H2):=by
  refine ⟨fun i m σ H=>m=n-i/\i<=n/\Pv i σ H,⟨n,by simp,Nat.zero_le _,h0⟩,?_⟩
  rintro i m σ H ⟨rfl,hi,p⟩
  by_cases hlt:i<n
  · refine .inr ⟨hlt,Pv (i+1),fun σ' H' p'=>⟨n-(i+1),by omega,rfl,hlt,p'⟩,fun x H' y=>?_⟩
    obtain ⟨e,y⟩:=y
    subst e y
    exact hs i σ _ hlt p
  · have e:i=n:=by omega
    subst e
    exact .inl ⟨Nat.le_refl _,hd σ H p⟩
end L2
namespace L2
open PySem PySem.Spec PyProof.Rows
abbrev R2:=V->V->Hp->VK->Prop
def OpR (X:Cx) (f:Value->Value->Sem Value) (r:R2):Prop :=
 ∀ (pins:List (Addr×Obj)) (s:Shared) (σ:St) (H:Hp) (x y:V) (v u:Value) (Q:VK),Inv X pins σ H s->RelV x v->RelV y u->r x y H Q ->
  wpAny (model X.prog X.w) X.A (f v u) (EP X pins σ Q) X.xe s
def UnR (X:Cx) (f:Value->Sem Value) (r:V->Hp->VK->Prop):Prop :=
 ∀ (pins:List (Addr×Obj)) (s:Shared) (σ:St) (H:Hp) (x:V) (v:Value) (Q:VK),Inv X pins σ H s->RelV x v->r x H Q ->
  wpAny (model X.prog X.w) X.A (f v) (EP X pins σ Q) X.xe s
def CallR (X:Cx) (f:Value) (r:List V->Hp->VK->Prop):Prop :=
 ∀ (pins:List (Addr×Obj)) (s:Shared) (σ:St) (H:Hp) (xs:List V) (us:List Value) (Q:VK),Inv X pins σ H s->Vals xs us->r xs H Q ->
  wpAny (model X.prog X.w) X.A (call f us) (EP X pins σ Q) X.xe s
def tOp (r:R2) (ta tb:TE):TE:=fun σ H Q=>ta σ H fun x H1=>tb σ H1 fun y H2=>r x y H2 Q
def tUn (r:V->Hp->VK->Prop) (ta:TE):TE:=fun σ H Q=>ta σ H fun x H1=>r x H1 Q
def rI (C:Int->Int->Prop) (g:Int->Int->V):R2:=fun x y H Q=>∃ i j,x = .int i/\y = .int j/\C i j/\Q (g i j) H
def rI0 (g:Int->Int->V):R2:=fun x y H Q=>∃ i j,x = .int i/\y = .int j/\Q (g i j) H
def rU (g:Int->V):V->Hp->VK->Prop:=fun x H Q=>∃ i,x = .int i/\Q (g i) H
section
variable {X:Cx} {a b c:Expr} {ta tb tc:TE} {pos:Pos}
theorem binT (ha:PE X a ta) (hb:PE X b tb) {pins:List (Addr×Obj)} {s:Shared} {σ:St} {H:Hp} {R:V->V->Hp->Prop} (I:Inv X pins σ H s)
    (h:ta σ H fun x H1=>tb σ H1 fun y H2=>R x y H2) {Q:Value->Shared->Prop} {f:Value->Value->Sem Value}
    (hf:∀ v u s2 x y H2,Inv X pins σ H2 s2->RelV x v->RelV y u->R x y H2->wpAny (model X.prog X.w) X.A (f v u) Q X.xe s2) :
    wpAny (model X.prog X.w) X.A (eval a X.env) (fun v s₁=>wpAny (model X.prog X.w) X.A (eval b X.env) (fun u s₂=>wpAny (model X.prog X.w) X.A (f v u) Q X.xe s₂) X.xe s₁) X.xe s:=by
  refine thn (ha pins s σ H _ I h) fun v s1 ⟨x,H1,I1,r1,q1⟩=>?_
  refine thn (hb pins s1 σ H1 _ I1 q1) fun u s2 ⟨y,H2,I2,r2,q2⟩=>?_
  exact hf v u s2 x y H2 I2 r1 r2 q2
theorem pe_op {op:Operator} {r:R2} (ho:OpR X (binaryOp op) r) (ha:PE X a ta) (hb:PE X b tb):PE X (.BinOp a op b pos) (tOp r ta tb):=by
 intro pins s σ H Q I h
 exact wpAny_BinOp (binT ha hb I h fun v u s2 x y H2 I2 rx ry q=>ho pins s2 σ H2 x y v u Q I2 rx ry q)
theorem pe_un {op:UnaryOp} {r:V->Hp->VK->Prop} (ho:UnR X (unaryOp op) r) (ha:PE X a ta):PE X (.UnaryOp op a pos) (tUn r ta):=by
 intro pins s σ H Q I h
 exact UnaryOp_ (thn (ha pins s σ H _ I h) fun v s1 ⟨x,H1,I1,r1,q1⟩=>ho pins s1 σ H1 x v Q I1 r1 q1)
theorem opI {f:Value->Value->Sem Value} {C:Int->Int->Prop} {g:Int->Int->Int}
    (rule:∀ (i j:Int) (t u:Tok) (s:Shared) (Q:Value->Shared->Prop) (E:Value->Shared->Prop),C i j->Q (.int (g i j) s.toks) { s with toks:=s.toks+1 }->wpAny (model X.prog X.w) X.A (f (.int i t) (.int j u)) Q E s) :
    OpR X f (rI C fun i j=>.int (g i j)):=by
  intro pins s σ H x y v u Q I rx ry h
  obtain ⟨i,j,rfl,rfl,hc,q⟩:=h
  obtain ⟨t,rfl⟩:=rx
  obtain ⟨t',rfl⟩:=ry
  exact rule i j t t' s _ _ hc ⟨.int (g i j),H,I.tok _,⟨_,rfl⟩,q⟩
theorem opI0 {f:Value->Value->Sem Value} {g:Int->Int->Int}
    (rule:∀ (i j:Int) (t u:Tok) (s:Shared) (Q:Value->Shared->Prop) (E:Value->Shared->Prop),Q (.int (g i j) s.toks) { s with toks:=s.toks+1 }->wpAny (model X.prog X.w) X.A (f (.int i t) (.int j u)) Q E s) :
    OpR X f (rI0 fun i j=>.int (g i j)):=by
  intro pins s σ H x y v u Q I rx ry h
  obtain ⟨i,j,rfl,rfl,q⟩:=h
  obtain ⟨t,rfl⟩:=rx
  obtain ⟨t',rfl⟩:=ry
  exact rule i j t t' s _ _ ⟨.int (g i j),H,I.tok _,⟨_,rfl⟩,q⟩
theorem opB0 {f:Value->Value->Sem Value} {g:Int->Int->Bool}
    (rule:∀ (i j:Int) (t u:Tok) (s:Shared) (Q:Value->Shared->Prop) (E:Value->Shared->Prop),Q (.bool (g i j)) s->wpAny (model X.prog X.w) X.A (f (.int i t) (.int j u)) Q E s) :
    OpR X f (rI0 fun i j=>.bl (g i j)):=by
  intro pins s σ H x y v u Q I rx ry h
  obtain ⟨i,j,rfl,rfl,q⟩:=h
  obtain ⟨t,rfl⟩:=rx
  obtain ⟨t',rfl⟩:=ry
  exact rule i j t t' s _ _ ⟨.bl (g i j),H,I,rfl,q⟩
def CPow (i j:Int):Prop:=0<=j/\j<=1000000/\i.natAbs<2 ^ 64
theorem zeg:OpR X (binaryOp .Add) (rI0 fun i j=>.int (i+j)):=opI0 fun _ _ _ _ _ _ _ q=>add_int q
theorem zrc:OpR X (binaryOp .Sub) (rI0 fun i j=>.int (i-j)):=opI0 fun _ _ _ _ _ _ _ q=>sub_int q
theorem zcu:OpR X (binaryOp .Mod) (rI (fun _ j=>0<j) fun i j=>.int (i % j)):=opI fun i j _ _ _ _ _ hc q=>by
 have h1:(0:Int)<j:=hc
 exact mod_int' (by omega) (by rw [Int.fmod_eq_emod_of_nonneg i (by omega)]; exact q)
theorem zgp:OpR X (binaryOp .Pow) (rI CPow fun i j=>.int (i ^ j.toNat)):=opI fun _ _ _ _ _ _ _ hc q=>pow_int_small hc.1 hc.2.1 hc.2.2 q
theorem unI {f:Value->Sem Value} {g:Int->Int}
    (rule:∀ (i:Int) (t:Tok) (s:Shared) (Q:Value->Shared->Prop) (E:Value->Shared->Prop),Q (.int (g i) s.toks) { s with toks:=s.toks+1 }->wpAny (model X.prog X.w) X.A (f (.int i t)) Q E s) :
    UnR X f (rU fun i=>.int (g i)):=by
  intro pins s σ H x v Q I rx h
  obtain ⟨i,rfl,q⟩:=h
  obtain ⟨t,rfl⟩:=rx
  exact rule i t s _ _ ⟨.int (g i),H,I.tok _,⟨_,rfl⟩,q⟩
theorem zfp:UnR X (unaryOp .USub) (rU fun i=>.int (-i)):=unI fun _ _ _ _ _ q=>neg_int q
end
def scal:V->V->Bool
 | .non,.non=>true | .non,.int _=>true | .int _,.non=>true | .non,.bl _=>true | .bl _,.non=>true | .non,.str _=>true | .str _,.non=>true
 | .int _,.int _=>true | .bl _,.bl _=>true | .str _,.str _=>true | .byt _,.byt _=>true
 | .int _,.str _=>true | .str _,.int _=>true | .bl _,.str _=>true | .str _,.bl _=>true
 | _,_=>false
def rEq:R2:=fun x y H Q=>scal x y=true/\Q (.bl (decide (x=y))) H
def rNe:R2:=fun x y H Q=>scal x y=true/\Q (.bl (!decide (x=y))) H
theorem znu {i j:Int}:decide (V.int i=V.int j)=(i == j):=by
 rw [Bool.eq_iff_iff]
 simp
theorem zrd {i j:Bool}:decide (V.bl i=V.bl j)=(i == j):=by
 rw [Bool.eq_iff_iff]
 simp
theorem znv {i j:Str}:decide (V.str i=V.str j)=(i == j):=by
 rw [Bool.eq_iff_iff]
 simp
theorem znw {i j:Array UInt8}:decide (V.byt i=V.byt j)=(i.toList == j.toList):=by
 rw [Bool.eq_iff_iff]
 cases i
 cases j
 simp
section
variable {X:Cx} {a b c:Expr} {ta tb tc:TE} {pos:Pos}
theorem zbq {pins:List (Addr×Obj)} {σ:St} {H:Hp} {s:Shared} {Q:VK} {k k':Bool} (I:Inv X pins σ H s) (q:Q (.bl k) H) (e:k=k'):EP X pins σ Q (.bool k') s:=by
 subst e
 exact ⟨.bl k,H,I,rfl,q⟩
theorem op_eq:OpR X (compareOp .Eq) rEq:=by
 intro pins s σ H x y v u Q I rx ry h
 obtain ⟨hs,q⟩:=h
 cases x with
 | non =>
  cases rx
  cases y with
  | non=>cases ry; exact PySem.EqNone.eq_none_none (zbq I q (by simp))
  | bl j=>cases ry; exact PySem.EqNone.eq_none_bool (zbq I q (by simp))
  | int j=>obtain ⟨t',rfl⟩:=ry; exact PySem.EqNone.eq_none_int (zbq I q (by simp))
  | str j=>obtain ⟨t',rfl⟩:=ry; exact PySem.EqNone.eq_none_str (zbq I q (by simp))
  | _=>exact absurd (show false=true from hs) Bool.false_ne_true
 | bl i =>
  cases rx
  cases y with
  | non=>cases ry; exact PySem.EqNone.eq_bool_none (zbq I q (by simp))
  | bl j=>cases ry; exact eq_bool (zbq I q zrd)
  | str j=>obtain ⟨t',rfl⟩:=ry; exact PySem.EqMixed.eq_bool_str (zbq I q (by simp))
  | _=>exact absurd (show false=true from hs) Bool.false_ne_true
 | int i =>
  obtain ⟨t,rfl⟩:=rx
  cases y with
  | non=>cases ry; exact PySem.EqNone.eq_int_none (zbq I q (by simp))
  | int j=>obtain ⟨t',rfl⟩:=ry; exact eq_int (zbq I q znu)
  | str j=>obtain ⟨t',rfl⟩:=ry; exact PySem.EqMixed.eq_int_str (zbq I q (by simp))
  | _=>exact absurd (show false=true from hs) Bool.false_ne_true
 | str i =>
  obtain ⟨t,rfl⟩:=rx
  cases y with
  | non=>cases ry; exact PySem.EqNone.eq_str_none (zbq I q (by simp))
  | bl j=>cases ry; exact PySem.EqMixed.eq_str_bool (zbq I q (by simp))
  | int j=>obtain ⟨t',rfl⟩:=ry; exact PySem.EqMixed.eq_str_int (zbq I q (by simp))
  | str j=>obtain ⟨t',rfl⟩:=ry; exact eq_str (zbq I q znv)
  | _=>exact absurd (show false=true from hs) Bool.false_ne_true
 | byt i =>
  obtain ⟨t,rfl⟩:=rx
  cases y with
  | byt j=>obtain ⟨t',rfl⟩:=ry; exact PySem.W.eq_bytes (zbq I q znw)
  | _=>exact absurd (show false=true from hs) Bool.false_ne_true
 | _=>cases y <;> exact absurd (show false=true from hs) Bool.false_ne_true
theorem op_ne:OpR X (compareOp .NotEq) rNe:=by
 intro pins s σ H x y v u Q I rx ry h
 obtain ⟨hs,q⟩:=h
 cases x with
 | non =>
  cases rx
  cases y with
  | non=>cases ry; exact PySem.EqNone.ne_none_none (zbq I q (by simp))
  | bl j=>cases ry; exact PySem.EqNone.ne_none_bool (zbq I q (by simp))
  | int j=>obtain ⟨t',rfl⟩:=ry; exact PySem.EqNone.ne_none_int (zbq I q (by simp))
  | str j=>obtain ⟨t',rfl⟩:=ry; exact PySem.EqNone.ne_none_str (zbq I q (by simp))
  | _=>exact absurd (show false=true from hs) Bool.false_ne_true
 | bl i =>
  cases rx
  cases y with
  | non=>cases ry; exact PySem.EqNone.ne_bool_none (zbq I q (by simp))
  | bl j=>cases ry; exact ne_bool (zbq I q (congrArg not zrd))
  | str j=>obtain ⟨t',rfl⟩:=ry; exact PySem.EqMixed.ne_bool_str (zbq I q (by simp))
  | _=>exact absurd (show false=true from hs) Bool.false_ne_true
 | int i =>
  obtain ⟨t,rfl⟩:=rx
  cases y with
  | non=>cases ry; exact PySem.EqNone.ne_int_none (zbq I q (by simp))
  | int j=>obtain ⟨t',rfl⟩:=ry; exact ne_int (zbq I q (congrArg not znu))
  | str j=>obtain ⟨t',rfl⟩:=ry; exact PySem.EqMixed.ne_int_str (zbq I q (by simp))
  | _=>exact absurd (show false=true from hs) Bool.false_ne_true
 | str i =>
  obtain ⟨t,rfl⟩:=rx
  cases y with
  | non=>cases ry; exact PySem.EqNone.ne_str_none (zbq I q (by simp))
  | bl j=>cases ry; exact PySem.EqMixed.ne_str_bool (zbq I q (by simp))
  | int j=>obtain ⟨t',rfl⟩:=ry; exact PySem.EqMixed.ne_str_int (zbq I q (by simp))
  | str j=>obtain ⟨t',rfl⟩:=ry; exact ne_str (zbq I q (congrArg not znv))
  | _=>exact absurd (show false=true from hs) Bool.false_ne_true
 | byt i =>
  obtain ⟨t,rfl⟩:=rx
  cases y with
  | byt j=>obtain ⟨t',rfl⟩:=ry; exact PySem.W.ne_bytes (zbq I q (congrArg not znw))
  | _=>exact absurd (show false=true from hs) Bool.false_ne_true
 | _=>cases y <;> exact absurd (show false=true from hs) Bool.false_ne_true
theorem op_lt:OpR X (compareOp .Lt) (rI0 fun i j=>.bl (decide (i<j))):=opB0 fun _ _ _ _ _ _ _ q=>lt_int q
theorem op_le:OpR X (compareOp .LtE) (rI0 fun i j=>.bl (decide (i<=j))):=opB0 fun _ _ _ _ _ _ _ q=>le_int q
theorem op_gt:OpR X (compareOp .Gt) (rI0 fun i j=>.bl (decide (j<i))):=opB0 fun _ _ _ _ _ _ _ q=>gt_int q
theorem zre:OpR X (compareOp .Is) (fun x y H Q=>y = .non/\Q (.bl (decide (x = .non))) H):=by
 intro pins s σ H x y v u Q I rx ry h
 obtain ⟨rfl,q⟩:=h
 cases ry
 refine is_none_gen (zbq I q ?_)
 cases x <;> first
  | (cases rx; rfl)
  | (obtain ⟨t,rfl⟩:=rx; rfl)
theorem ziv:OpR X (compareOp .IsNot) (fun x y H Q=>y = .non/\Q (.bl (!decide (x = .non))) H):=by
 intro pins s σ H x y v u Q I rx ry h
 obtain ⟨rfl,q⟩:=h
 cases ry
 refine isnot_none_gen (zbq I q ?_)
 cases x <;> first
  | (cases rx; rfl)
  | (obtain ⟨t,rfl⟩:=rx; rfl)
theorem zar (b:Expr) {op:CmpOp} (h:op≠.In:=by decide) (h2:op≠.NotIn:=by decide):behindInMarks op b=false:=by
 have e1:(op == CmpOp.In)=false:=by cases op <;> first | rfl | exact absurd rfl h
 have e2:(op == CmpOp.NotIn)=false:=by cases op <;> first | rfl | exact absurd rfl h2
 cases b <;> simp [behindInMarks,e1,e2]
theorem zhe {op:CmpOp} {r:R2} (ho:OpR X (compareOp op) r) (ha:PE X a ta) (hb:PE X b tb) (hm:behindInMarks op b=false):PE X (.Compare a [op] [b] pos) (tOp r ta tb):=by
 intro pins s σ H Q I h
 exact wpAny_Compare1 (binT ha hb I h fun v u s2 x y H2 I2 rx ry q=>ho pins s2 σ H2 x y v u Q I2 rx ry q) hm
def tTest (t:TE):TT:=fun σ H Q=>t σ H fun x H'=>∃ k,x = .bl k/\Q k H'
theorem zap {op:CmpOp} {r:R2} (ho:OpR X (compareOp op) r) (ha:PE X a ta) (hb:PE X b tb) (hm:behindInMarks op b=false):PT X (.Compare a [op] [b] pos) (tTest (tOp r ta tb)):=by
 intro pins s σ H Q I h
 refine wpAny_isTrue_Compare1 (thn (ha pins s σ H _ I h) fun v s1 ⟨x,H1,I1,r1,q1⟩=>thn (hb pins s1 σ H1 _ I1 q1) fun u s2 ⟨y,H2,I2,r2,q2⟩ =>
  thn (ho pins s2 σ H2 x y v u _ I2 r1 r2 q2) fun c s3 ⟨z,H3,I3,r3,k,e,q3⟩=>?_) hm
 subst e
 cases r3
 exact wpAny_truthy_bool ⟨H3,I3,q3⟩
def tChain (r r':R2) (ta tb tc:TE):TE:=fun σ H Q=>ta σ H fun x H1=>tb σ H1 fun y H2=>r x y H2 fun z H3=>∃ k,z = .bl k /\
 (if k=true then tc σ H3 fun w' H4=>r' y w' H4 Q else Q (.bl false) H3)
theorem zpx {op op':CmpOp} {r r':R2} (ho:OpR X (compareOp op) r) (ho':OpR X (compareOp op') r') (ha:PE X a ta) (hb:PE X b tb) (hc:PE X c tc)
    (hm:lastMarks [op,op'] [b,c] = false:=by with_unfolding_all rfl):PE X (.Compare a [op,op'] [b,c] pos) (tChain r r' ta tb tc):=by
  intro pins s σ H Q I h
  refine Compare_chain (thn (ha pins s σ H _ I h) fun v s1 ⟨x,H1,I1,r1,q1⟩=>chain_link (thn (hb pins s1 σ H1 _ I1 q1) fun u s2 ⟨y,H2,I2,r2,q2⟩ =>
    thn (ho pins s2 σ H2 x y v u _ I2 r1 r2 q2) fun d s3 ⟨z,H3,I3,r3,k,e,q3⟩=>?_)) hm
  subst e
  cases r3
  refine wpAny_truthy_bool ?_
  cases k with
  | false=>exact ite_ff ⟨.bl false,H3,I3,rfl,q3⟩
  | true=>exact ite_tt (chain_last (thn (hc pins s3 σ H3 _ I3 q3) fun w' s4 ⟨z',H4,I4,r4,q4⟩=>ho' pins s4 σ H4 y z' u w' Q I4 r2 r4 q4))
theorem zlw {op op':CmpOp} {r r':R2} (ho:OpR X (compareOp op) r) (ho':OpR X (compareOp op') r') (ha:PE X a ta) (hb:PE X b tb) (hc:PE X c tc)
    (hm:lastMarks [op,op'] [b,c] = false:=by with_unfolding_all rfl):PT X (.Compare a [op,op'] [b,c] pos) (tTest (tChain r r' ta tb tc)):=by
  intro pins s σ H Q I h
  refine isTrue_chain (thn (ha pins s σ H _ I h) fun v s1 ⟨x,H1,I1,r1,q1⟩=>test_link (thn (hb pins s1 σ H1 _ I1 q1) fun u s2 ⟨y,H2,I2,r2,q2⟩ =>
    thn (ho pins s2 σ H2 x y v u _ I2 r1 r2 q2) fun d s3 ⟨z,H3,I3,r3,k,e,q3⟩=>?_)) hm
  subst e
  cases r3
  refine wpAny_truthy_bool ?_
  cases k with
  | false =>
    obtain ⟨k',e',q'⟩:=q3
    cases e'
    exact ite_ff ⟨H3,I3,q'⟩
  | true =>
    refine ite_tt (test_last (thn (hc pins s3 σ H3 _ I3 q3) fun w' s4 ⟨z',H4,I4,r4,q4⟩=>thn (ho' pins s4 σ H4 y z' u w' _ I4 r2 r4 q4) fun d' s5 ⟨z2,H5,I5,r5,k2,e2,q5⟩=>?_))
    subst e2
    cases r5
    exact wpAny_truthy_bool ⟨H5,I5,q5⟩
def TruV (K:PySem.W.Frag) (x:V) (H:Hp) (k:Bool):Prop :=
 match x with
 | .non=>k=false
 | .bl b=>k=b
 | .int i=>k=(i != 0)
 | .str y=>y.length<=sizeLine/\k=((y.length:Int) != 0)
 | .byt y=>y.size<=sizeLine/\k=((y.size:Int) != 0)
 | .ref p=>(∃ xs,SqL K H p xs/\k = !xs.isEmpty)\/(∃ xs,SqT K H p xs/\k = !xs.isEmpty)\/∃ kvs,H p=some (.dK kvs)/\k = !kvs.isEmpty
 | _=>False
theorem zjq:(sizeLine:Nat)<2 ^ 63:=by rw [sizeLine_eq]; decide
theorem zmv:OpR X (binaryOp .Add) (fun x y H Q=>∃ i j,x = .str i/\y = .str j/\i.length+j.length<=sizeLine/\Q (.str (i++j)) H):=by
 intro pins s σ H x y v u Q I rx ry h
 obtain ⟨i,j,rfl,rfl,hz,q⟩:=h
 obtain ⟨t,rfl⟩:=rx
 obtain ⟨t',rfl⟩:=ry
 exact add_str (fun t' tk=>⟨.str (i++j),H,I.tok _,⟨_,rfl⟩,q⟩) hz
theorem vals1 {x:V} {us:List Value} (r:Vals [x] us):∃ u,us = [u]/\RelV x u:=by
 cases r with
 | cons r1 r2=>cases r2; exact ⟨_,rfl,r1⟩
theorem zlx:CallR X (.builtin "abs") (fun xs H Q=>∃ i,xs = [.int i]/\Q (.int (if i<0 then -i else i)) H):=by
 intro pins s σ H xs us Q I r h
 obtain ⟨i,rfl,q⟩:=h
 obtain ⟨u,rfl,t,rfl⟩:=vals1 r
 exact call_abs_int fun u tk=>⟨.int (if i<0 then -i else i),H,I.tok _,⟨_,rfl⟩,q⟩
end
end L2
namespace L2
open PySem PySem.Spec PyProof.Rows
structure ObjM (h:Heap) (x dx C:Addr) (mA:Str->Option Value):Prop where
 obj:h.get? x=some (PySem.W.instObj C dx)
 ns:h.Ns1 dx mA
 ne:dx≠x
theorem znx {h:Heap} {dx:Addr} {mA:Str->Option Value} (n:h.Ns1 dx mA):∃ od,h.get? dx=some od/\∀ name,PySem.W.lookIn name od=some (mA name):=by
 obtain ⟨o,es,ep,ho,hd,hk,_,hm⟩:=n
 refine ⟨o,ho,fun name=>?_⟩
 have e:=hm name
 unfold nsFind findBy at e
 rw [<- Array.find?_toList] at e
 unfold PySem.W.lookIn
 rw [hd]
 dsimp only
 split
 ·rename_i y q
  rw [q] at e
  exact congrArg some e
 ·rename_i q
  rw [q] at e
  have a:es.toList.any (·.refKey)=false:=by
   rw [List.any_eq_false]
   intro y hy
   obtain ⟨z,t,hkey⟩:=hk y (Array.mem_toList_iff.mp hy)
   simp [DictEntry.refKey,hkey]
  have a':¬ es.toList.any (·.refKey)=true:=by rw [a]; exact Bool.false_ne_true
  rw [if_neg a']
  exact congrArg some e
theorem ObjM.look {h:Heap} {x dx C:Addr} {mA:Str->Option Value} (I:ObjM h x dx C mA):∃ od,PySem.W.InstAt h x (PySem.W.instObj C dx) C (some od)/\∀ name,PySem.W.lookIn name od=some (mA name) :=
 let ⟨od,ho,hl⟩:=znx I.ns
 ⟨od,⟨I.obj,rfl,rfl,ho⟩,hl⟩
section
variable {prog:Program} {w:World} {A:Around} {E:Value->Shared->Prop} {s:Shared} {K:PySem.W.Frag} {x dx C f:Addr} {mA:Str->Option Value} {name:Str} {v:Value}
theorem zrv {expr:Bool} {Q:Value->Shared->Prop} (X:K.In s.heap) (I:ObjM s.heap x dx C mA) (hg:PySem.W.plainGet K C name=true) (hh:PySem.W.hasDictIn K C=true)
    (ha:PySem.W.findIn K (.ref C) name=some none) (hv:mA name=some v) (hv':PySem.W.handedIn v=true) (h:Q v { s with toks:=s.toks+1 }) :
    wpAny (model prog w) A (getAttr (.ref x) name expr) Q E s:=by
  obtain ⟨od,J,hl⟩:=I.look
  exact PySem.W.get_value X J (PySem.W.plainGet_of hg).1 (PySem.W.findObj_own hh ha rfl (by rw [hl,hv])) hv' h
theorem zpy {pl:Sem Bool} {Q:Value×List Value->Shared->Prop} (X:K.In s.heap) (I:ObjM s.heap x dx C mA) (hg:PySem.W.plainGet K C name=true)
    (hf:PySem.W.findIn K (.ref C) name=some (some (.ref f))) (ht:PySem.W.isFn K (.ref f)=true) (hv:mA name=none) (h:Q (.ref f,[.ref x]) s) :
    wpAny (model prog w) A (getMethod (.ref x) name pl) Q E s:=by
  obtain ⟨od,J,hl⟩:=I.look
  exact PySem.W.method_fn X J (PySem.W.plainGet_of hg).1 (PySem.W.plainGet_of hg).2 hf (beq_iff_eq.mp ht) (by show (PySem.W.lookIn name od).map (·.isSome)=some false; rw [hl,hv]; rfl) h
theorem zrw {ns:List Str} {Q:Unit->Shared->Prop} (X:K.In s.heap) (I:ObjM s.heap x dx C mA)
    (hs:PySem.W.findIn K (.ref C) "__setattr__" = some (some (.builtin "object.__setattr__"))) (hp:PySem.W.plainOver K C=true) (ht:PySem.W.takerIn K C name=some none) (hh:PySem.W.hasDictIn K C=true)
    (hw:PySem.Within mA ns) (hsz:ns.length<=sizeLine)
    (h:∀ h',ObjM h' x dx C (fun y=>if y=name then some v else mA y)->Heap.SameBut dx s.heap h'->Q () { s with heap:=h',toks:=s.toks+2 }) :
    wpAny (model prog w) A (setAttr (.ref x) name v) Q E s:=by
  obtain ⟨od,J,hl⟩:=I.look
  refine PySem.W.set_plain X J hs (PySem.W.osa_open (s:={ s with toks:=s.toks+1 }) (r:=none) X J hp ht fun b=>?_)
  obtain ⟨cd,hc,hd'⟩:=PySem.W.any_some hh
  have hx:s.heap.get? x=some ⟨.ref C,some dx,.plain,#[]⟩:=I.obj
  refine wpAny_bind (wpAny_pure (wpAny_bind (wpAny_bind (wpAny_loadPart hx (wpAny_bind (PySem.W.Looks.here (s:={ s with toks:=s.toks+1 }) (PySem.W.looks_clsIn X hc) ?_))))))
  rw [hd']
  refine wpAny_pure (a:=some dx) (wpAny_bind (wpAny_pure (wpAny_bind ?_)))
  refine wpAny_nsSet1 (s:={ s with toks:=s.toks+1 }) I.ns fun h' hn2 hs2=>?_
  obtain ⟨oD,esD,epD,hoD,hdD,hcD⟩:=hn2.count (PySem.Within.cons name v hw)
  refine wpAny_bind (wpAny_lookBehind hoD (by rw [hdD]; exact pastItsLine_dict (Nat.le_trans hcD (by rw [List.length_cons]; omega))) ?_)
  exact wpAny_pure (h _ ⟨(hs2.2 _ (Ne.symm I.ne)).trans I.obj,hn2,I.ne⟩ hs2)
theorem zpz {R:Result->Shared->Prop} {vs:List Value} {kw:List (Str×Value)} (X:K.In s.heap) (hm:PySem.W.makesIn K C=true)
    (hi:PySem.W.findIn K (.ref C) "__init__" = some (some (.ref f))) (hf:PySem.W.typeIn K (.ref f)=some (.type "function"))
    (h:codeAny (model prog w) (A.under (.builtin "type.__call__" ⟨.ref C :: vs,kw⟩)) (.call (.ref f) ⟨.ref (s.heap.objs.size+1) :: vs,kw⟩) (PySem.W.InitBack (s.heap.objs.size+1) R)
      { s with heap:=(s.heap.push PySem.W.emptyDict).push (PySem.W.instObj C s.heap.objs.size) }) :
    codeAny (model prog w) A (.call (.ref C) ⟨vs,kw⟩) R s:=by
  obtain ⟨hh,g,d,t,os⟩:=s
  exact PySem.W.make_core (PySem.W.makes_of X hm) (PySem.W.looks_findIn X hi) (fun self=>PySem.W.bind_fn X self hf) (.inl rfl) h
end
def putF (f:Str) (v:V):List (Str×V)->List (Str×V)
 | []=>[(f,v)]
 | (g,x) :: r=>if g=f then (g,v) :: r else (g,x) :: putF f v r
theorem zdj (f g:Str) (v:V):∀ fs:List (Str×V),(putF f v fs).lookup g=if g=f then some v else fs.lookup g
 | []=>by
  show List.lookup g [(f,v)] = _
  by_cases h:g=f
  ·have hb:(g == f)=true:=beq_iff_eq.mpr h
   simp only [List.lookup,hb,if_pos h]
  ·have hb:(g == f)=false:=beq_eq_false_iff_ne.mpr h
   simp only [List.lookup,hb,if_neg h]
 | (k,x) :: r=>by
  have ih:=zdj f g v r
  rw [show putF f v ((k,x) :: r)=(if k=f then (k,v) :: r else (k,x) :: putF f v r) from rfl]
  by_cases hk:k=f
  ·rw [if_pos hk]
   by_cases h:g=k
   ·have hb:(g == k)=true:=beq_iff_eq.mpr h
    simp only [List.lookup,hb,if_pos (h.trans hk)]
   ·have hb:(g == k)=false:=beq_eq_false_iff_ne.mpr h
    simp only [List.lookup,hb,if_neg (fun e:g=f=>h (e.trans hk.symm))]
  ·rw [if_neg hk]
   by_cases h:g=k
   ·have hb:(g == k)=true:=beq_iff_eq.mpr h
    simp only [List.lookup,hb,if_neg (fun e:g=f=>hk (h.symm.trans e))]
   ·have hb:(g == k)=false:=beq_eq_false_iff_ne.mpr h
    simp only [List.lookup,hb]
    exact ih
theorem zhf (f:Str) (v:V):∀ fs:List (Str×V),f∈(putF f v fs).map (·.1)/\∀ g,g∈fs.map (·.1)->g∈(putF f v fs).map (·.1)
 | []=>⟨by simp [putF],fun g h=>by simp at h⟩
 | (k,x) :: r=>by
  obtain ⟨i1,i2⟩:=zhf f v r
  rw [show putF f v ((k,x) :: r)=(if k=f then (k,v) :: r else (k,x) :: putF f v r) from rfl]
  by_cases hk:k=f
  ·rw [if_pos hk]
   subst hk
   exact ⟨by simp,fun g h=>by simpa using h⟩
  ·rw [if_neg hk]
   refine ⟨?_,fun g h=>?_⟩
   ·rw [List.map_cons]
    exact List.mem_cons_of_mem _ i1
   ·rw [List.map_cons] at h ⊢
    rcases List.mem_cons.mp h with e | e
    ·exact List.mem_cons.mpr (.inl e)
    ·exact List.mem_cons_of_mem _ (i2 g e)
theorem zhg (f:Str) (v:V):∀ fs:List (Str×V),(putF f v fs).length<=fs.length+1
 | []=>by simp [putF]
 | (k,x) :: r=>by
  have ih:=zhg f v r
  rw [show putF f v ((k,x) :: r)=(if k=f then (k,v) :: r else (k,x) :: putF f v r) from rfl]
  by_cases hk:k=f
  ·rw [if_pos hk,List.length_cons,List.length_cons]; omega
  ·rw [if_neg hk,List.length_cons,List.length_cons]; omega
theorem RelO.some_of {v:V} {o:Option Value} (r:RelO (some v) o):∃ u,o=some u/\RelV v u:=by
 cases o with
 | none=>exact (show False from r).elim
 | some u=>exact ⟨u,rfl,r⟩
theorem RelO.none_of {o:Option Value} (r:RelO none o):o=none:=by
 cases o with
 | none=>rfl
 | some u=>exact (show False from r).elim
theorem zny {v:V} {u:Value} (r:RelV v u):PySem.W.handedIn u=true:=by
 cases v with
 | non=>cases (show u=Value.none from r); rfl
 | bl b=>cases (show u=Value.bool b from r); rfl
 | int i=>obtain ⟨t,e⟩:=(show ∃ t,u=Value.int i t from r); cases e; rfl
 | str x=>obtain ⟨t,e⟩:=(show ∃ t,u=Value.str x t from r); cases e; rfl
 | byt b=>obtain ⟨t,e⟩:=(show ∃ t,u=Value.bytes b t from r); cases e; rfl
 | flt b=>obtain ⟨t,e⟩:=(show ∃ t,u=Value.float b t from r); cases e; rfl
 | ref a=>cases (show u=Value.ref a from r); rfl
 | ty n=>cases (show u=Value.type n from r); rfl
section
variable {P:Program} {w:World} {H H':Hp} {h h':Heap} {a C dx:Addr} {fs fs':List (Str×V)}
theorem ziw (hok:HOk P w H h) (e:H a=some (.ins C dx fs)):∃ mA,ObjM h a dx C mA/\(∀ f,RelO (fs.lookup f) (mA f))/\PySem.Within mA (fs.map (·.1))/\fs.length<=1000/\H dx=some (.own a):=by
 obtain ⟨d,z,ne,ob,mA,n,r,q⟩:=(show ObjOk P w H h a (.ins C dx fs) from hok a _ e)
 exact ⟨mA,⟨ob,n,ne⟩,r,q,z,d⟩
end
structure Cls (K:PySem.W.Frag) (C:Addr):Prop where
 pg:PySem.W.plainGet K C Str.empty=true
 hd:PySem.W.hasDictIn K C=true
 po:PySem.W.plainOver K C=true
 sa:PySem.W.findIn K (.ref C) "__setattr__" = some (some (.builtin "object.__setattr__"))
theorem Cls.get {K:PySem.W.Frag} {C:Addr} (c:Cls K C) (f:Str):PySem.W.plainGet K C f=true:=c.pg
def NoAttr (K:PySem.W.Frag) (C:Addr) (f:Str):Prop:=PySem.W.findIn K (.ref C) f=some none
theorem NoAttr.taker {K:PySem.W.Frag} {C:Addr} {f:Str} (n:NoAttr K C f):PySem.W.takerIn K C f=some none:=by
 unfold PySem.W.takerIn
 rw [show PySem.W.findIn K (.ref C) f=some none from n]
 rfl
structure Meth (K:PySem.W.Frag) (C:Addr) (m:Str) (f:Addr):Prop where
 at_:PySem.W.findIn K (.ref C) m=some (some (.ref f))
 fn:PySem.W.isFn K (.ref f)=true
 kp:PySem.W.keepIn K (.ref f)=true
section
variable {X:Cx} {pins:List (Addr×Obj)} {σ:St} {H:Hp} {s:Shared} {a C dx:Addr} {fs:List (Str×V)} {f:Str} {v:V} {A:Around} {E:Value->Shared->Prop}
theorem zmw {b:Bool} {Q:Value->Shared->Prop} (I:Inv X pins σ H s) (e:H a=some (.ins C dx fs)) (c:Cls X.K C) (n:NoAttr X.K C f) (l:fs.lookup f=some v)
    (h:∀ u s',Inv X pins σ H s'->RelV v u->Q u s'):wpAny (model X.prog X.w) A (getAttr (.ref a) f b) Q E s:=by
  obtain ⟨mA,O,r,_,_,_⟩:=ziw I.hok e
  obtain ⟨u,hu,ru⟩:=RelO.some_of (v:=v) (o:=mA f) (by rw [<- l]; exact r f)
  exact zrv I.kIn O (c.get f) c.hd n hu (zny ru) (h u _ (I.tok _) ru)
theorem zij {m:Str} {g:Addr} {pl:Sem Bool} {Q:Value×List Value->Shared->Prop} (I:Inv X pins σ H s) (e:H a=some (.ins C dx fs)) (c:Cls X.K C) (k:Meth X.K C m g) (l:fs.lookup m=none)
    (h:Q (.ref g,[.ref a]) s):wpAny (model X.prog X.w) A (getMethod (.ref a) m pl) Q E s:=by
  obtain ⟨mA,O,r,_,_,_⟩:=ziw I.hok e
  have hn:mA m=none:=RelO.none_of (by rw [<- l]; exact r m)
  exact zpy I.kIn O (c.get m) k.at_ k.fn hn h
theorem zmx {y:V} {u:Value} {Q:Unit->Shared->Prop} (I:Inv X pins σ H s) (e:H a=some (.ins C dx fs)) (c:Cls X.K C) (n:NoAttr X.K C f) (hl:fs.length<1000) (ry:RelV y u)
    (h:∀ s',Inv X pins σ (upd H a (.ins C dx (putF f y fs))) s'->Q () s'):wpAny (model X.prog X.w) A (setAttr (.ref a) f u) Q E s:=by
  obtain ⟨mA,O,r,wi,_,ho⟩:=ziw I.hok e
  have hz:(fs.map (·.1)).length<=sizeLine:=by rw [List.length_map,sizeLine_eq]; omega
  refine zrw I.kIn O c.sa c.po n.taker c.hd wi hz fun h' O' sb=>h _ ?_
  have hd:∃ o,h'.get? dx=some o:=let ⟨o,_,_,e',_⟩:=O'.ns; ⟨o,e'⟩
  refine I.write (x:=a) (e:=dx) (by rw [e]; exact True.intro) (.inr ho) (fun b q hb z=>(sb.2 b hb).trans z) hd ?_
  refine ⟨by rw [zah O.ne]; exact ho,?_,O.ne,O'.obj,_,O'.ns,fun g=>?_,fun g hg=>?_⟩
  · have:=zhg f y fs; omega
  · show RelO ((putF f y fs).lookup g) (if g=f then some u else mA g)
    rw [zdj]
    by_cases q:g=f
    · rw [if_pos q,if_pos q]; exact ry
    · rw [if_neg q,if_neg q]; exact r g
  · by_cases q:g=f
    · rw [q]; exact (zhf f y fs).1
    · refine (zhf f y fs).2 g (wi g fun z=>hg ?_)
      show (if g=f then some u else mA g)=none
      rw [if_neg q]; exact z
theorem Inv.made (I:Inv X pins σ H s):Inv X pins σ (upd (upd H s.heap.objs.size (.own (s.heap.objs.size+1))) (s.heap.objs.size+1) (.ins C s.heap.objs.size []))
    { s with heap:=(s.heap.push PySem.W.emptyDict).push (PySem.W.instObj C s.heap.objs.size) }:=by
  have e1:(s.heap.push PySem.W.emptyDict).get? s.heap.objs.size=some PySem.W.emptyDict:=Heap.get?_push_size s.heap rfl
  have e2:((s.heap.push PySem.W.emptyDict).push (PySem.W.instObj C s.heap.objs.size)).get? (s.heap.objs.size+1)=some (PySem.W.instObj C s.heap.objs.size):=by
    have:=Heap.get?_push_size (s.heap.push PySem.W.emptyDict) (o:=PySem.W.instObj C s.heap.objs.size) rfl
    rwa [Heap.size_push] at this
  have e3:(s.heap.push PySem.W.emptyDict).Ns s.heap.objs.size (fun _=>none):=⟨PySem.W.emptyDict,#[],_,e1,rfl,(fun e he=>absurd he (by simp)),fun _=>rfl⟩
  have I1:=I.laid (a:=s.heap.objs.size) (o:=.own (s.heap.objs.size+1)) (h':=s.heap.push PySem.W.emptyDict) (t':=s.toks) (fun b u q=>Heap.get?_push_of_some _ q) (Nat.le_refl _) ⟨_,e1⟩
  refine I1.laid (a:=s.heap.objs.size+1) (o:=.ins C s.heap.objs.size []) (t':=s.toks) (fun b u q=>Heap.get?_push_of_some _ q) (Nat.le_of_eq (Heap.size_push _ _)) ?_
  have ne:s.heap.objs.size≠s.heap.objs.size+1:=Nat.ne_of_lt (Nat.lt_succ_self _)
  refine ⟨by rw [zah ne,zab],Nat.zero_le _,ne,e2,fun _=>none,(Heap.Ns1.of_empty e3).at fun o q=>Heap.get?_push_of_some _ q,fun _=>True.intro,fun y hy=>absurd rfl hy⟩
theorem zrx {prog:Program} {w:World} {env:Env} {e:Expr} {f:Str} {pos:Pos} {s:Shared} {Q:Value->Shared->Prop} (hb:attributeBase e f env (eval e env)=eval e env)
    (h:wpAny (model prog w) A (eval e env) (fun o s₁=>wpAny (model prog w) A (getAttr o f true) Q E s₁) E s):wpAny (model prog w) A (eval (.Attribute e f pos) env) Q E s :=
  Attribute_any_ h (by rw [arm_eval_Attribute,hb])
end
def tFld (K:PySem.W.Frag) (ta:TE) (f:Str):TE:=fun σ H Q=>ta σ H fun x H1=>∃ a C dx fs v,x = .ref a/\H1 a=some (.ins C dx fs)/\Cls K C/\NoAttr K C f/\fs.lookup f=some v/\Q v H1
def sFld (K:PySem.W.Frag) (ta tv:TE) (f:Str):TS:=fun D σ H=>tv σ H fun y H1=>ta σ H1 fun x H2=>∃ a C dx fs,x = .ref a/\H2 a=some (.ins C dx fs)/\Cls K C/\NoAttr K C f/\fs.length<1000 /\
 D.nx σ (upd H2 a (.ins C dx (putF f y fs)))
section
variable {X:Cx} {o e value:Expr} {f:Str} {pos pos' tpos:Pos} {ta tv:TE}
theorem zcc (he:PE X e ta) (hb:attributeBase e f X.env (eval e X.env)=eval e X.env):PE X (.Attribute e f pos) (tFld X.K ta f):=by
 intro pins s σ H Q I h
 refine zrx hb (thn (he pins s σ H _ I h) fun u s1 ⟨x,H1,I1,rx,a,C,dx,fs,v,ex,ea,c,n,l,q⟩=>?_)
 subst ex
 obtain rfl:u=Value.ref a:=rx
 exact zmw I1 ea c n l fun u' s2 I2 ru=>⟨v,H1,I2,ru,q⟩
theorem zcj (ha:PE X o ta) (hv:PE X value tv) (hs:swapsWith value (some (.Attribute o f pos')) pos.line X.env=pure false):PS X (.Assign [.Attribute o f pos'] value pos) (sFld X.K ta tv f):=by
 intro pins s σ H D I h
 refine plainObj_wpAny_Assign_Attribute (thn (hv pins s σ H _ I h) fun u s1 ⟨y,H1,I1,ry,q⟩=>thn (ha pins s1 σ H1 _ I1 q) fun ov s2 ⟨x,H2,I2,rx,a,C,dx,fs,ex,ea,c,n,l,q2⟩=>?_) hs
 subst ex
 obtain rfl:ov=Value.ref a:=rx
 exact zmx I2 ea c n l ry fun s3 I3=>⟨σ,_,I3,q2⟩
end
section
variable {X:Cx} {pins:List (Addr×Obj)} {σ:St} {H:Hp} {s:Shared} {A:Around} {E:Value->Shared->Prop} {Q:Value->Shared->Prop} {c:Value} {b:Bool}
inductive TyOf (K:PySem.W.Frag) (H:Hp):V->Value->Prop where
  | non:TyOf K H .non (.type "NoneType")
  | bl (x:Bool):TyOf K H (.bl x) (.type "bool")
  | int (i:Int):TyOf K H (.int i) (.type "int")
  | str (x:Str):TyOf K H (.str x) (.type "str")
  | flt (x:UInt64):TyOf K H (.flt x) (.type "float")
  | lst {a:Addr} {xs:List V} (e:H a=some (.lst xs)):TyOf K H (.ref a) (.type "list")
  | frz {a:Addr} {o:Obj} {xs:List V} (e:H a=some (.frz o (.lst xs))):TyOf K H (.ref a) (.type "list")
  | tup {a:Addr} {xs:List V} (e:H a=some (.tup xs)):TyOf K H (.ref a) (.type "tuple")
  | dK {a:Addr} {kvs:List (Key×V)} (e:H a=some (.dK kvs)):TyOf K H (.ref a) (.type "dict")
  | dT {a:Addr} {kvs:List (List Key×V)} (e:H a=some (.dT kvs)):TyOf K H (.ref a) (.type "dict")
  | ins {a C dx:Addr} {fs:List (Str×V)} (e:H a=some (.ins C dx fs)) (cl:Cls K C) (ha:PySem.W.findIn K (.ref C) "__class__" = some (some (.builtin "object.__class__")))
      (hn:PySem.W.specialIn K (.builtin "object.__class__") "__get__" = some (some (.builtin "getset_descriptor.__get__"))) (htk:PySem.W.takesIn K (.builtin "object.__class__")=some true)
      (hm:PySem.W.mroIn K C (.type "object")=some true):TyOf K H (.ref a) (.ref C)
theorem znz {x:V} {u t:Value} (I:Inv X pins σ H s) (rx:RelV x u) (ty:TyOf X.K H x t) (e:PySem.W.kitOne X.K t c=some b) (h:∀ tk,Q (.bool b) { s with toks:=tk }) :
    wpAny (model X.prog X.w) A (call (.builtin "isinstance") [u,c]) Q E s:=by
  cases ty with
  | non=>cases (show u=Value.none from rx); exact PySem.W.kia_one PySem.W.kitx_none I.kIn True.intro e (fun z=>nomatch z) h
  | bl y=>cases (show u=Value.bool y from rx); exact PySem.W.kia_one PySem.W.kitx_bool I.kIn True.intro e (fun z=>nomatch z) h
  | int i=>obtain ⟨t,q⟩:=(show ∃ t,u=Value.int i t from rx); cases q; exact PySem.W.kia_one PySem.W.kitx_int I.kIn True.intro e (fun z=>nomatch z) h
  | str y=>obtain ⟨t,q⟩:=(show ∃ t,u=Value.str y t from rx); cases q; exact PySem.W.kia_one PySem.W.kitx_str I.kIn True.intro e (fun z=>nomatch z) h
  | flt y=>obtain ⟨t,q⟩:=(show ∃ t,u=Value.float y t from rx); cases q; exact PySem.W.kia_one PySem.W.kitx_float I.kIn True.intro e (fun z=>nomatch z) h
  | @lst a xs ea =>
    cases (show u=Value.ref a from rx)
    obtain ⟨_,_,n,_,h1⟩:=(show ObjOk X.prog X.w H s.heap a (.lst xs) from I.hok a _ ea)
    exact PySem.W.kia_one PySem.W.kitx_list I.kIn ⟨_,h1,rfl⟩ e (fun z=>nomatch z) h
  | @frz a ob xs ea =>
    cases (show u=Value.ref a from rx)
    obtain ⟨_,_,_,n,_,h1⟩:=(show ObjOk X.prog X.w H s.heap a (.frz ob (.lst xs)) from I.hok a _ ea)
    exact PySem.W.kia_one PySem.W.kitx_list I.kIn ⟨_,h1,rfl⟩ e (fun z=>nomatch z) h
  | @tup a xs ea =>
    cases (show u=Value.ref a from rx)
    obtain ⟨_,_,_,p⟩:=(show ObjOk X.prog X.w H s.heap a (.tup xs) from I.hok a _ ea)
    obtain ⟨o,h1,h2,_⟩:=p
    exact PySem.W.kia_one PySem.W.kitx_tuple I.kIn ⟨o,h1,h2⟩ e (fun z=>nomatch z) h
  | @dK a kvs ea =>
    cases (show u=Value.ref a from rx)
    obtain ⟨_,_,vs,_,p⟩:=(show ObjOk X.prog X.w H s.heap a (.dK kvs) from I.hok a _ ea)
    obtain ⟨o,es,ep,h1,h2,_⟩:=p
    exact PySem.W.kia_one PySem.W.kitx_dict I.kIn ⟨o,h1,h2.1⟩ e (fun z=>nomatch z) h
  | @dT a kvs ea =>
    cases (show u=Value.ref a from rx)
    obtain ⟨_,_,xs,_,o,es,ep,h1,h2,_⟩:=(show ObjOk X.prog X.w H s.heap a (.dT kvs) from I.hok a _ ea)
    exact PySem.W.kia_one PySem.W.kitx_dict I.kIn ⟨o,h1,h2.1⟩ e (fun z=>nomatch z) h
  | @ins a C dx fs ea cl ha hn htk hm =>
    cases (show u=Value.ref a from rx)
    obtain ⟨mA,O,_⟩:=ziw I.hok ea
    obtain ⟨od,J,_⟩:=O.look
    exact PySem.W.kia_one (PySem.W.kitx_own (cl.get _) cl.hd ha hn htk hm) I.kIn J e (fun z=>nomatch z) h
end
end L2
namespace L2
open PySem PySem.Spec PyProof.Rows
structure Room (k:Nat) (A:Around):Prop where
 hd:A.handled=none
 dp:A.depth+3*k+5<recursionLimit
 un:A.units+16*k+200<cLine
theorem Room.mono {j k:Nat} {A:Around} (r:Room k A) (h:j<=k):Room j A:=⟨r.hd,by have:=r.dp; omega,by have:=r.un; omega⟩
theorem Room.deeper {k:Nat} {A:Around} (r:Room (k+1) A) (env:Env):Room k (A.deeper env) :=
 ⟨r.hd,by have:=r.dp; show A.depth+1+3*k+5 < _; omega,by have:=r.un; show A.units+3+16*k+200 < _; omega⟩
theorem zmy {A:Around} {C:Addr} {us:List Value} {kw:List (Str×Value)}:(A.under (.builtin "type.__call__" ⟨.ref C :: us,kw⟩)).depth=A.depth+1:=by
 first | rfl | simp [Around.under,Code.weight,Code.isCreation,Code.isGuard,Code.isCaller,Code.frames,Code.isFrame,guardIds]
theorem zmz {A:Around} {C:Addr} {us:List Value} {kw:List (Str×Value)}:(A.under (.builtin "type.__call__" ⟨.ref C :: us,kw⟩)).units=A.units+1:=by
 first | rfl | simp [Around.under,Code.cUnits,Code.frames,Code.isFrame]
theorem Room.make {k:Nat} {A:Around} (r:Room (k+1) A) (C:Addr) (us:List Value) (kw:List (Str×Value)):Room k (A.under (.builtin "type.__call__" ⟨.ref C :: us,kw⟩)) :=
 ⟨r.hd,by have:=r.dp; rw [zmy]; omega,by have:=r.un; rw [zmz]; omega⟩
theorem Room.depth {k:Nat} {A:Around} (r:Room k A):A.depth<recursionLimit:=by have:=r.dp; omega
theorem Room.units {k:Nat} {A:Around} (r:Room k A):A.units+64<cLine:=by have:=r.un; omega
def tNil:TA:=fun _ H Q=>Q [] H
def tCons (ta:TE) (tr:TA):TA:=fun σ H Q=>ta σ H fun x H1=>tr σ H1 fun xs H2=>Q (x :: xs) H2
section
variable {X:Cx} {e:Expr} {es:List Expr} {te:TE} {t:TA} {pos:Pos}
theorem zag:PA X [] tNil:=fun _ _ _ _ H Q I h=>Calls.spliced_nil ⟨[],H,I,.nil,h⟩
theorem zaa (ha:PE X e te) (hr:PA X es t) (hs:starEach (e :: es) X.env=(false,eval e X.env) :: starEach es X.env:=by rfl):PA X (e :: es) (tCons te t):=by
 intro pos pins s σ H Q I h
 rw [hs]
 show wpAny _ _ (spliced ((false,eval e X.env) :: backTo pos (starEach es X.env))) _ _ s
 refine Calls.spliced_cons (thn (ha pins s σ H _ I h) fun u s1 ⟨x,H1,I1,r1,q1⟩=>?_)
 exact thn (hr pos pins s1 σ H1 _ I1 q1) fun us s2 ⟨xs,H2,I2,r2,q2⟩=>⟨x :: xs,H2,I2,.cons r1 r2,q2⟩
def tTup (t:TA):TE:=fun σ H Q=>t σ H fun xs H1=>xs.length<=sizeLine/\∀ p,H1 p=none->Q (.ref p) (upd H1 p (.tup xs))
def tLst (t:TA):TE:=fun σ H Q=>t σ H fun xs H1=>xs.length<=sizeLine/\∀ p,H1 p=none->Q (.ref p) (upd H1 p (.lst xs))
theorem zoa {x1} (h:PA X es t):PE X (.Tuple es x1 pos) (tTup t):=by
 intro pins s σ H Q I hq
 refine wpAny_Tuple_spliced (thn (h pos pins s σ H _ I hq) fun us s1 ⟨xs,H1,I1,r,z,q⟩=>⟨by rw [<- r.length]; exact z,?_⟩)
 have hf:H1 s1.heap.objs.size=none:=I1.hok.fresh (Nat.le_refl _)
 refine ⟨.ref s1.heap.objs.size,upd H1 s1.heap.objs.size (.tup xs),I1.laid (t':=s1.toks) (fun b u e=>Heap.get?_push_of_some _ e) (Nat.le_refl _) ?_,rfl,q _ hf⟩
 exact ⟨z,us,r,⟨_,Heap.get?_push_size _ rfl,rfl,_,rfl⟩⟩
theorem zdg (h:PA X es t):PE X (.List es pos) (tLst t):=by
 intro pins s σ H Q I hq
 refine wpAny_List_spliced (thn (h pos pins s σ H _ I hq) fun us s1 ⟨xs,H1,I1,r,z,q⟩=>⟨by rw [<- r.length]; exact z,?_⟩)
 have hf:H1 s1.heap.objs.size=none:=I1.hok.fresh (Nat.le_refl _)
 refine ⟨.ref s1.heap.objs.size,upd H1 s1.heap.objs.size (.lst xs),I1.laid (t':=s1.toks) (fun b u e=>Heap.get?_push_of_some _ e) (Nat.le_refl _) ?_,rfl,q _ hf⟩
 exact ⟨z,us,0,r,Heap.get?_push_size _ rfl⟩
end
abbrev Sp:=List V->Hp->VK->XK->Prop
abbrev CXT:=List Env->Hp->Shared->XK->Value->Shared->Prop
structure Env0 (P:Program) (w:World) (K:PySem.W.Frag) (mg:Str->Option Value) (base:Heap) (A:Around) (outer:List Env) (s:Shared) (H:Hp):Prop where
 frames:A.frames=some outer
 mod:Mod K mg base
 bs:∀ b o,base.get? b=some o->s.heap.get? b=some o/\H b=none
 bsz:base.objs.size<=s.heap.objs.size
 funs:s.heap.FunFrames base outer
 frf:∀ b∈frs outer,H b=none
 hok:HOk P w H s.heap
 bare:AllBare s.gens
def CE (outer:List Env) (P:Program) (w:World) (H:Hp) (s:Shared) (Q:VK) (u:Value) (s':Shared):Prop :=
 ∃ v H',s'.os=s.os/\AllBare s'.gens/\Un (frs outer) [] H H' s.heap s'.heap/\HOk P w H' s'.heap/\RelV v u/\Q v H'
def CR (CX:CXT) (outer:List Env) (P:Program) (w:World) (H:Hp) (s:Shared) (Q:VK) (E:XK) (r:Result) (s':Shared):Prop :=
 match r with
 | .ok (.ret u)=>CE outer P w H s Q u s'
 | .ok _=>False
 | .error e=>CX outer H s E e s'
structure FnOk (P:Program) (w:World) (K:PySem.W.Frag) (mg:Str->Option Value) (base:Heap) (CX:CXT) (k:Nat) (f:Addr) (fd:FuncData) (ps:List Str) (sp:Sp):Prop where
 len:∀ vs H Q E,sp vs H Q E->vs.length=ps.length
 run:∀ (A:Around) (outer:List Env) (s:Shared) (H:Hp) (args:Args) (us:List Value) (vs:List V) (Q:VK) (E:XK),Room k A->Env0 P w K mg base A outer s H->BindsTo s fd args (ps.zip us)->Vals vs us->sp vs H Q E ->
  codeAny (model P w) A (.call (.ref f) args) (CR CX outer P w H s Q E) s
theorem Env0.make {P:Program} {w:World} {K:PySem.W.Frag} {mg:Str->Option Value} {base:Heap} {A:Around} {outer:List Env} {s:Shared} {H:Hp} (e:Env0 P w K mg base A outer s H) (C:Addr) (us:List Value) (kw:List (Str×Value)) :
    Env0 P w K mg base (A.under (.builtin "type.__call__" ⟨.ref C :: us,kw⟩)) outer s H:=⟨by first | exact e.frames | (simpa [Around.under,Code.envs,Code.isFrame,pushEnvs] using e.frames),e.mod,e.bs,e.bsz,e.funs,e.frf,e.hok,e.bare⟩
section
variable {X:Cx} {pins:List (Addr×Obj)} {σ:St} {H:Hp} {s s':Shared}
theorem Inv.env0 (I:Inv X pins σ H s):Env0 X.prog X.w X.K X.mg X.base X.A X.stack s H :=
 ⟨I.ok.frames,I.ok.mod,I.bs,Nat.le_trans I.ok.bsz I.sz,I.stack,I.stkFree,I.hok,I.bare⟩
theorem Inv.after {Q:VK} {u:Value} (I:Inv X pins σ H s) (h:CE X.stack X.prog X.w H s Q u s'):EP X pins σ Q u s':=by
 obtain ⟨v,H',os,bare,un,hok,r,q⟩:=h
 obtain ⟨hh,g,d,t,os'⟩:=s'
 obtain rfl:os'=s.os:=os
 exact ⟨v,H',I.call (h':=hh) (g':=g) (d':=d) (t':=t) (ch:=[]) un hok bare (fun b z=>absurd z (by simp)),r,q⟩
end
def tCall (sp:Sp) (dvs:List V) (E:XK) (t:TA):TE:=fun σ H Q=>t σ H fun vs H1=>sp (vs++dvs) H1 Q E
def Binds (K:PySem.W.Frag) (fd:FuncData) (ps:List Str) (ds:List Value):Prop :=
 ∀ (s:Shared) (us:List Value),K.In s.heap->(us++ds).length=ps.length->BindsTo s fd ⟨us,[]⟩ (ps.zip (us++ds))
theorem Binds.all {K:PySem.W.Frag} {fd:FuncData} {ps:List Str} (h:∀ us:List Value,us.length=ps.length->bindArgs fd ⟨us,[]⟩ = pure (ps.zip us)):Binds K fd ps []:=fun s us _ hl=>by
 rw [List.append_nil] at hl ⊢
 exact .of_eq (h us hl)
section
variable {X:Cx} {CX:CXT} {k:Nat} {f C:Addr} {fd:FuncData} {ps:List Str} {sp:Sp} {dvs:List V} {ds:List Value} {E:XK} {x m:Str} {p pos apos:Pos} {e o:Expr} {es:List Expr} {ta:TE} {t:TA}
structure Mk (K:PySem.W.Frag) (C f:Addr):Prop where
 makes:PySem.W.makesIn K C=true
 init:PySem.W.findIn K (.ref C) "__init__" = some (some (.ref f))
 fn:PySem.W.isFn K (.ref f)=true
 kp:PySem.W.keepIn K (.ref C)=true
end
section
variable {X:Cx} {CX:CXT} {k:Nat} {f C:Addr} {fd:FuncData} {ps ks:List Str} {sp:Sp} {E:XK} {x m:Str} {p pos apos kpos:Pos} {e o:Expr} {es:List Expr} {kws:List Keyword} {te ta:TE} {t tk:TA} {nm:Option Str}
variable {g:List Value->List Value->List Value} {gV:List V->List V->List V}
end
structure FnScope (N P:List Str) (sc:Scope):Prop where
 kind:sc.kind = .function
 co:sc.isCoroutine=false
 gen:sc.isGenerator=false
 nd:N.Nodup
 pre:N.take P.length=P
 par:∀ x∈P,sc.names.lookup x=some .local\/sc.names.lookup x=some .cell
 nofree:∀ y∈sc.names,y.2≠.free
theorem zjr {kindOf:Str->Option NameKind} {x:Str}:∀ {binds:List (Str×Value)} {m:Str->Option Value},(∀ v,(x,v) ∉ binds)->bindL kindOf binds m x=m x
 | [],_,_=>rfl
 | (n,v) :: r,m,h=>by
  unfold bindL
  rw [zjr fun w hw=>h w (List.mem_cons_of_mem _ hw)]
  split
  ·have:x≠n:=by rintro rfl; exact h v List.mem_cons_self
   simp [this]
  ·rfl
theorem zjs {kindOf:Str->Option NameKind} {x:Str}:∀ {binds:List (Str×Value)} {m:Str->Option Value},(∀ v,(x,v) ∉ binds)->bindC kindOf binds m x=m x
 | [],_,_=>rfl
 | (n,v) :: r,m,h=>by
  unfold bindC
  rw [zjs fun w hw=>h w (List.mem_cons_of_mem _ hw)]
  split
  ·rfl
  ·have:x≠n:=by rintro rfl; exact h v List.mem_cons_self
   simp [this]
theorem zjt {kindOf:Str->Option NameKind} {x:Str} {v:Value}:∀ {P:List Str} {vs:List Value} {i:Nat} {m:Str->Option Value},P.Nodup->P[i]? = some x->vs[i]? = some v->kindOf x=some .local ->
    bindL kindOf (P.zip vs) m x=some v
  | [],_,_,_,_,h,_,_=>by simp at h
  | _ :: _,[],_,_,_,_,h,_=>by simp at h
  | p :: P,w :: vs,0,m,nd,h1,h2,hk=>by
    simp at h1 h2; subst h1; subst h2
    show bindL kindOf ((p,w) :: P.zip vs) m p = _
    unfold bindL
    rw [zjr fun v hv=>(List.nodup_cons.mp nd).1 (List.of_mem_zip hv).1,if_pos hk]
    simp
  | p :: P,w :: vs,i+1,m,nd,h1,h2,hk=>by
    show bindL kindOf ((p,w) :: P.zip vs) m x = _
    unfold bindL
    exact zjt (i:=i) (List.nodup_cons.mp nd).2 (by simpa using h1) (by simpa using h2) hk
theorem zju {kindOf:Str->Option NameKind} {x:Str} {v:Value}:∀ {P:List Str} {vs:List Value} {i:Nat} {m:Str->Option Value},P.Nodup->P[i]? = some x->vs[i]? = some v->kindOf x≠some .local ->
    bindC kindOf (P.zip vs) m x=some v
  | [],_,_,_,_,h,_,_=>by simp at h
  | _ :: _,[],_,_,_,_,h,_=>by simp at h
  | p :: P,w :: vs,0,m,nd,h1,h2,hk=>by
    simp at h1 h2; subst h1; subst h2
    show bindC kindOf ((p,w) :: P.zip vs) m p = _
    unfold bindC
    rw [zjs fun v hv=>(List.nodup_cons.mp nd).1 (List.of_mem_zip hv).1,if_neg hk]
    simp
  | p :: P,w :: vs,i+1,m,nd,h1,h2,hk=>by
    show bindC kindOf ((p,w) :: P.zip vs) m x = _
    unfold bindC
    exact zju (i:=i) (List.nodup_cons.mp nd).2 (by simpa using h1) (by simpa using h2) hk
def start (N:List Str) (vs:List V):St:=vs.map some++List.replicate (N.length-vs.length) none
def cxOf (CX:CXT) (P:Program) (w:World) (K:PySem.W.Frag) (mg:Str->Option Value) (base:Heap) (N:List Str) (qual:Str) (scope:Scope) (f:Addr) (cd:Value) (A:Around) (outer:List Env) (s:Shared) (H:Hp) (E:XK):Cx where
 prog:=P
 w:=w
 K:=K
 mg:=mg
 base:=base
 A:=A.deeper (envOfC qual scope s.heap.objs.size f cd)
 N:=N
 s₀:=s
 H₀:=H
 env:=envOfC qual scope s.heap.objs.size f cd
 outer:=outer
 stack:=envOfC qual scope s.heap.objs.size f cd :: outer
 ex:=[]
 calm:=true
 fn:=fun _=>true
 pn:=[]
 xe:=fun e s'=>wpAny (model P w) (A.deeper (envOfC qual scope s.heap.objs.size f cd)) (leaving (envOfC qual scope s.heap.objs.size f cd) e) (fun _ s''=>CX outer H s E e s'') (fun e' s''=>CX outer H s E e' s'') s'
theorem zly {sc:Scope} {n:Nat} {x:Str} (h:sc.names.lookup x=some .cell):∃ c,(cellsFrom n sc.names []).lookup x=some c:=by
 have q:=PySem.W.cellsFrom_some sc.names n [] (.inl h)
 exact Option.isSome_iff_exists.mp q
theorem zjv {CX:CXT} {P:Program} {w:World} {K:PySem.W.Frag} {mg:Str->Option Value} {base:Heap} {N ps:List Str} {qual:Str} {scope:Scope} {f:Addr} {cd:Value} {A:Around} {outer:List Env} {s s1:Shared} {H:Hp} {E:XK} {us:List Value} {vs:List V}
    (S:FnScope N ps scope) (hd:A.handled=none) (e0:Env0 P w K mg base A outer s H) (hl:vs.length=ps.length) (r:Vals vs us)
    (x:InCallC s s.heap.objs.size (bindL (envOfC qual scope s.heap.objs.size f cd).kindOf (ps.zip us) fun _=>none) (cellsFrom (s.heap.objs.size+1) scope.names []) (bindC (envOfC qual scope s.heap.objs.size f cd).kindOf (ps.zip us) fun _=>none) s1) :
    Inv (cxOf CX P w K mg base N qual scope f cd A outer s H E) [] (start N vs) H s1:=by
  have hpl:ps.length<=N.length:=by have:=congrArg List.length S.pre; rw [List.length_take] at this; omega
  obtain ⟨h1,tk,rfl,hk⟩:=x.done
  have noA:∀ b:Addr,b ∉ (cxOf CX P w K mg base N qual scope f cd A outer s H E).ex:=fun b z=>absurd (show b∈([]:List Addr) from z) (by simp)
  refine ⟨⟨e0.mod,S.kind,rfl,rfl,Nat.le_refl _,fun y z c h1 h2=>?_,fun y hy=>?_,fun y c _ h=>?_,fun _=>hd,Around.frames_deeper e0.frames,.inr ⟨rfl,rfl⟩,fun b z=>absurd z (noA b),e0.bs,e0.bsz,fun b _ _=>noA b,fun b z=>absurd z (noA b),e0.funs,e0.frf⟩,
    rfl,e0.bare,Un.kept hk,⟨_,x.toInCall.ns,fun i y v h1 h2 h3=>?_⟩,fun y c h=>⟨_,x.cell y c h⟩,e0.hok.fresh (Nat.le_refl _),fun y c h=>?_,fun p hp=>absurd (show p∈([]:List (Addr×Obj)) from hp) (by simp),e0.hok.kept hk,?_⟩
  · exact name_of_addr x.apart (PySem.mem_of_lookup h1) (PySem.mem_of_lookup h2)
  · have hy:scope.names.lookup y=some .cell\/scope.names.lookup y=some .free:=hy
    rcases hy with hy | hy
    · exact zly hy
    · exact absurd rfl (S.nofree _ (PySem.mem_of_lookup hy))
  · exact Nat.le_of_lt (x.above y c (PySem.mem_of_lookup h))
  · have hi:i<vs.length:=by
      unfold start at h2
      by_cases hi:i<vs.length
      · exact hi
      · rw [List.getElem?_append_right (by simpa using hi)] at h2
        rw [List.getElem?_replicate] at h2
        split at h2 <;> cases h2
    have ha:vs[i]? = some v:=by
      unfold start at h2
      rw [List.getElem?_append_left (by simpa using hi),List.getElem?_map] at h2
      cases e:vs[i]? with
      | none=>rw [e] at h2; cases h2
      | some a=>rw [e] at h2; cases h2; rfl
    obtain ⟨u,hu,rv⟩:=r.get ha
    have hp:ps[i]? = some y:=by
      rw [<- S.pre,List.getElem?_take_of_lt (by omega)]; exact h1
    have ndP:ps.Nodup:=by rw [<- S.pre]; exact S.nd.sublist (List.take_sublist _ _)
    refine ⟨u,rv,?_⟩
    rcases S.par y (List.mem_of_getElem? hp) with k | k
    · exact .inl ⟨k,zjt ndP hp hu k⟩
    · obtain ⟨c,e⟩:=zly (n:=s.heap.objs.size+1) k
      refine .inr ⟨.inl k,c,e,?_⟩
      have q:=x.cell y c e
      rw [zju ndP hp hu (by show scope.names.lookup y≠_; rw [k]; decide)] at q
      exact q
  · exact e0.hok.fresh (Nat.le_of_lt (x.above y c (PySem.mem_of_lookup h)))
  · unfold start
    show _=N.length
    rw [List.length_append,List.length_map,List.length_replicate]
    omega
theorem fn_of {CX:CXT} {P:Program} {w:World} {K:PySem.W.Frag} {mg:Str->Option Value} {base:Heap} {k:Nat} {f:Addr} {name qual:Str} {params:Arguments} {body:List Stmt} {scope:Scope} {dV kV doc pm cdv ct oc:Value} {an od:Option Addr}
    {osl:Array (Option Value)} {N ps:List Str} {sp:Sp} (lk:K.lookup f=some ⟨oc,od,.func (PySem.W.fnOf name qual params body scope dV kV doc pm an cdv ct),osl⟩) (hcd:PySem.W.codeIn K cdv qual=true) (S:FnScope N ps scope)
    (len:∀ vs H Q E,sp vs H Q E->vs.length=ps.length)
    (hbody:∀ (A:Around) (outer:List Env) (s:Shared) (H:Hp) (vs:List V) (Q:VK) (E:XK),Room k (A.deeper (envOfC qual scope s.heap.objs.size f cdv))->sp vs H Q E ->
      ∃ t,PSs (cxOf CX P w K mg base N qual scope f cdv A outer s H E) body t/\t { nx:=fun _ H'=>Q .non H',rt:=Q } (start N vs) H) :
    FnOk P w K mg base CX (k+1) f (PySem.W.fnOf name qual params body scope dV kV doc pm an cdv ct) ps sp:=by
  refine ⟨len,fun A outer s H args us vs Q E hr e0 hb r hsp=>?_⟩
  have hl:=len _ _ _ _ hsp
  have KX:K.In s.heap:=e0.mod.kin.keeps fun b o e=>(e0.bs b o e).1
  have lim:s.heap.NoLimit:=e0.mod.nolimit.keeps fun b o e=>(e0.bs b o e).1
  have hkind:∀ y∈ps.zip us,scope.names.lookup y.1=some .local\/(scope.names.lookup y.1=some .cell/\((cellsFrom (s.heap.objs.size+1) scope.names []).lookup y.1).isSome=true):=fun ⟨n,v⟩ hy=>by
    rcases S.par n (List.of_mem_zip hy).1 with q | q
    · exact .inl q
    · exact .inr ⟨q,PySem.W.cellsFrom_some _ _ _ (.inl q)⟩
  refine codeAny_call_function hr.depth (KX _ _ lk) rfl S.co S.gen rfl (PySem.W.codeRec_of KX hcd) (hb _ _ _ _ ?_)
  refine wpAny_newFunctionEnv_cells S.kind hkind fun env he s1 x=>?_
  subst he
  refine ⟨lim.keeps x.toInCall.keep,codeAny_func ?_⟩
  obtain ⟨t,ht,hq⟩:=hbody A outer s H vs Q E (hr.deeper _) hsp
  have I:Inv (cxOf CX P w K mg base N qual scope f cdv A outer s H E) [] (start N vs) H s1:=zjv S hr.hd e0 hl r x
  refine wpAny_mono (ht [] s1 (start N vs) H _ I hq) (fun fl s' hs=>?_) fun e s' hs=>hs
  have fin:∀ {σ':St} {H':Hp} {v:V} {u:Value},Inv (cxOf CX P w K mg base N qual scope f cdv A outer s H E) [] σ' H' s'->RelV v u->Q v H'->CE outer P w H s Q u s' :=
    fun {σ' H' v u} J rv q=>⟨v,H',J.os,J.bare,J.base,J.hok,rv,q⟩
  cases fl with
  | ret u =>
    obtain ⟨v,σ',H',J,rv,q⟩:=hs
    exact fin J rv q
  | next =>
    obtain ⟨σ',H',J,q⟩:=hs
    exact fin (v:=V.non) (u:=Value.none) J rfl q
  | brk =>
    obtain ⟨_,_,_,q⟩:=hs
    exact False.elim q
  | cont =>
    obtain ⟨_,_,_,q⟩:=hs
    exact False.elim q
end L2
namespace L2
open PySem PySem.Spec PyProof.Rows
section
variable {X:Cx} {x:Str} {p pos:Pos} {e:Expr} {es:List Expr} {t:TA} {id T:String} {r:List V->Hp->VK->Prop}
def tCB (r:List V->Hp->VK->Prop) (t:TA):TE:=fun σ H Q=>t σ H fun vs H1=>r vs H1 Q
theorem zbi (hc:CallR X (.builtin id) r) (hg:Gl X x) (hm:X.mg x=none) (hv:bootBuiltins x=some (.builtin id)) (ha:PA X (e :: es) t) (hn:x ≠ "__name__" := by decide) (hdb:(x == ("__debug__" : Str))=false:=by decide)
    (he:starEach (e :: es) X.env=(false,eval e X.env) :: starEach es X.env:=by rfl) (hpl:(backTo pos (starEach es X.env)).any (·.1)=false:=by rfl):PE X (.Call (.Name x p) (e :: es) [] pos) (tCB r t):=by
  intro pins s σ H Q I h
  refine wpAny_Call_Name_kw (zlu I hg hm hv ?_ hn hdb)
  exact PyProof.Rows.callWith_builtin1 (thn (ha pos pins s σ H _ I h) fun us s1 ⟨vs,H1,I1,r1,q1⟩=>hc pins s1 σ H1 vs us Q I1 r1 q1) he hpl
theorem zjw (hc:CallR X (.type T) r) (hg:Gl X x) (hm:X.mg x=none) (hv:bootBuiltins x=some (.type T)) (ha:PA X (e :: es) t) (hn:x ≠ "__name__" := by decide) (hdb:(x == ("__debug__" : Str))=false:=by decide)
    (he:starEach (e :: es) X.env=(false,eval e X.env) :: starEach es X.env:=by rfl) (hpl:(backTo pos (starEach es X.env)).any (·.1)=false:=by rfl):PE X (.Call (.Name x p) (e :: es) [] pos) (tCB r t):=by
  intro pins s σ H Q I h
  refine wpAny_Call_Name_kw (zlu I hg hm hv ?_ hn hdb)
  exact PyProof.Rows.callWith_type1 (thn (ha pos pins s σ H _ I h) fun us s1 ⟨vs,H1,I1,r1,q1⟩=>hc pins s1 σ H1 vs us Q I1 r1 q1) he hpl
end
end L2
namespace HT
open PySem PyProof.Rows
section
open PySem.SeqAt
open PySem.AutoSeq1 (wpAny_loadPart')
open PySem.MeetsSeq PySem.MeetsSeq2 PySem.MeetsSeq3
end
section
variable {prog:Program} {w:World} {A:Around} {E:Value->Shared->Prop} {s:Shared}
def sIx (n d:Nat):Option Int->Nat
 | none=>d
 | some v=>if v<0 then (v+(n:Int)).toNat else min v.toNat n
theorem sIx_none (n d:Nat):sIx n d none=d:=rfl
theorem sIx_nat (n d k:Nat):sIx n d (some (k:Int))=min k n:=by
 show (if (k:Int)<0 then ((k:Int)+(n:Int)).toNat else min (k:Int).toNat n)=min k n
 rw [if_neg (by omega),Int.toNat_natCast]
end
end HT
namespace L2
open PySem PySem.Spec PyProof.Rows
abbrev TO:=St->Hp->(Option Int->Hp->Prop)->Prop
def PO (X:Cx) (e:Option Expr) (t:TO):Prop :=
 ∀ (pins:List (Addr×Obj)) (s:Shared) (σ:St) (H:Hp) (Q:Option Int->Hp->Prop),Inv X pins σ H s->t σ H Q ->
  wpAny (model X.prog X.w) X.A (evalPart e X.env) (fun u s'=>∃ o H',Inv X pins σ H' s'/\IsPart u o/\Q o H') X.xe s
def tNoPart:TO:=fun _ H Q=>Q none H
def tPart (t:TE):TO:=fun σ H Q=>t σ H fun x H1=>∃ i,x = .int i/\Q (some i) H1
section
variable {X:Cx} {e:Expr} {te:TE} {lo hi:Option Expr} {tl th:TO} {pos p2:Pos}
theorem zix:PO X none tNoPart:=by
 intro pins s σ H Q I h
 rw [evalPart_none]
 exact wpAny_pure ⟨none,H,I,.none,h⟩
theorem zgd (h:PE X e te):PO X (some e) (tPart te):=by
 intro pins s σ H Q I hw
 rw [evalPart_some]
 refine thn (h pins s σ H _ I hw) fun u s1 ⟨x,H1,I1,r1,q1⟩=>?_
 obtain ⟨i,rfl,q⟩:=q1
 obtain ⟨t,rfl⟩:=r1
 exact ⟨some i,H1,I1,.int i t,q⟩
def SlR (X:Cx) (r:V->Option Int->Option Int->Hp->VK->Prop):Prop :=
 ∀ (pins:List (Addr×Obj)) (s:Shared) (σ:St) (H:Hp) (x:V) (v vl vu:Value) (lo hi:Option Int) (sl:Addr) (Q:VK),Inv X pins σ H s->RelV x v->s.heap.IsSliceOf sl vl vu .none->IsPart vl lo->IsPart vu hi->r x lo hi H Q ->
  ∃ T id,typeLookup (.type T) "__getitem__" = pure (some (.builtin id))/\s.TypeIs v T/\wpAny (model X.prog X.w) X.A (getItem v (.ref sl)) (EP X pins σ Q) X.xe s
def tSl (r:V->Option Int->Option Int->Hp->VK->Prop) (te:TE) (tl th:TO):TE:=fun σ H Q=>te σ H fun x H1=>tl σ H1 fun l H2=>th σ H2 fun u H3=>r x l u H3 Q
theorem zfq {r:V->Option Int->Option Int->Hp->VK->Prop} (hr:SlR X r) (he:PE X e te) (hl:PO X lo tl) (hu:PO X hi th):PE X (.Subscript e (.Slice lo hi none p2) pos) (tSl r te tl th):=by
 intro pins s σ H Q I h
 refine Subscript_ (thn (he pins s σ H _ I h) fun v s1 ⟨x,H1,I1,r1,q1⟩=>?_)
 refine wpAny_Slice (thn (hl pins s1 σ H1 _ I1 q1) fun vl s2 ⟨l,H2,I2,pl,q2⟩=>thn (hu pins s2 σ H2 _ I2 q2) fun vu s3 ⟨u,H3,I3,pu,q3⟩=>?_)
 rw [evalPart_none]
 refine wpAny_pure ?_
 have I4:Inv X pins σ H3 { s3 with heap:=s3.heap.push { cls:=.type "slice", data:=.fields #[vl,vu,.none] } }:=I3.kept (t':=s3.toks) fun b ob q=>Heap.get?_push_of_some _ q
 obtain ⟨T,id,hT,ht,hg⟩:=hr pins { s3 with heap:=s3.heap.push { cls:=.type "slice", data:=.fields #[vl,vu,.none] } } σ H3 x v vl vu l u s3.heap.objs.size Q I4 r1 (Heap.IsSliceOf.new ..) pl pu q3
 show wpAny (model X.prog X.w) X.A (subscriptTail e (.Slice lo hi none p2) v (.ref s3.heap.objs.size)) (EP X pins σ Q) X.xe { s3 with heap:=s3.heap.push { cls:=.type "slice", data:=.fields #[vl,vu,.none] } }
 exact tail_any (ops:=[.ref s3.heap.objs.size,v]) ht hT hg (by with_unfolding_all rfl)
def cutV (xs:List V) (lo hi:Option Int):List V:=(xs.drop (HT.sIx xs.length 0 lo)).take (HT.sIx xs.length xs.length hi-HT.sIx xs.length 0 lo)
theorem zlb (xs:List V) (lo hi:Option Int):(cutV xs lo hi).length<=xs.length:=by
 unfold cutV
 rw [List.length_take,List.length_drop]
 omega
end
end L2
namespace L2
open PySem PySem.Spec PyProof.Rows
def ixN (n:Nat) (i:Int):Option Nat:=if 0<=i then (if i<n then some i.toNat else none) else if -(n:Int)<=i then some (i+n).toNat else none
def atI {α:Type} (xs:List α) (i:Int):Option α:=(ixN xs.length i).bind fun j=>xs[j]?
theorem zry {n:Nat} {i:Int} {j:Nat} (h:ixN n i=some j):seqIndex? i n=some j/\j<n/\-(n:Int)<=i/\i<n:=by
 unfold ixN at h
 by_cases h0:0<=i
 ·rw [if_pos h0] at h
  by_cases h1:i<n
  ·rw [if_pos h1] at h
   have e:i.toNat=j:=Option.some.inj h
   exact ⟨by rw [seqIndex_of h0 h1,e],by omega,by omega,h1⟩
  ·rw [if_neg h1] at h; cases h
 ·rw [if_neg h0] at h
  by_cases h1:-(n:Int)<=i
  ·rw [if_pos h1] at h
   have e:(i+n).toNat=j:=Option.some.inj h
   exact ⟨by rw [seqIndex_neg (by omega) h1,e],by omega,h1,by omega⟩
  ·rw [if_neg h1] at h; cases h
theorem zlc {α:Type} {xs:List α} {i:Int} {v:α} (h:atI xs i=some v):∃ j,seqIndex? i xs.length=some j/\xs[j]? = some v/\j<xs.length/\-(xs.length:Int)<=i/\i<xs.length:=by
 unfold atI at h
 cases e:ixN xs.length i with
 | none=>rw [e] at h; cases h
 | some j =>
  rw [e] at h
  obtain ⟨h1,h2,h3,h4⟩:=zry e
  exact ⟨j,h1,h,h2,h3,h4⟩
theorem zes {α:Type} {xs:List α} {j:Nat} {v:α} (h:xs[j]? = some v):atI xs (j:Int)=some v:=by
 have hj:j<xs.length:=(List.getElem?_eq_some_iff.mp h).1
 have e:ixN xs.length (j:Int)=some j:=by
  unfold ixN
  rw [if_pos (by omega),if_pos (by omega)]; simp
 unfold atI; rw [e]; exact h
def zob (b:Expr):Prop:=∀ o i,subscripted b false o i=operate [o,i] (getItem o i)
def IxR (X:Cx) (r:R2):Prop :=
 ∀ (value slice:Expr) (pins:List (Addr×Obj)) (s:Shared) (σ:St) (H:Hp) (x y:V) (v u:Value) (Q:VK),Inv X pins σ H s->RelV x v->RelV y u->r x y H Q ->
  subscripted slice false v u=operate [v,u] (getItem v u)->wpAny (model X.prog X.w) X.A (subscriptTail value slice v u) (EP X pins σ Q) X.xe s
def MtR (X:Cx) (id:String) (r:V->List V->Hp->VK->Prop):Prop :=
 ∀ (pins:List (Addr×Obj)) (s:Shared) (σ:St) (H:Hp) (x:V) (xs:List V) (v:Value) (us:List Value) (Q:VK),Inv X pins σ H s->RelV x v->Vals xs us->r x xs H Q ->
  wpAny (model X.prog X.w) X.A (call (.builtin id) (v :: us)) (EP X pins σ Q) X.xe s
section
variable {X:Cx} {a b:Expr} {ta tb:TE} {pos:Pos}
theorem pe_ix {r:R2} (hr:IxR X r) (ha:PE X a ta) (hb:PE X b tb) (hs:zob b):PE X (.Subscript a b pos) (tOp r ta tb):=by
 intro pins s σ H Q I h
 exact Subscript_ (binT ha hb I h fun v u s2 x y H2 I2 rx ry q=>hr a b pins s2 σ H2 x y v u Q I2 rx ry q (hs _ _))
def rIxL (K:PySem.W.Frag):R2:=fun x y H Q=>∃ p xs i v,x = .ref p/\y = .int i/\SqL K H p xs/\atI xs i=some v/\Q v H
def rIxT (K:PySem.W.Frag):R2:=fun x y H Q=>∃ p xs i v,x = .ref p/\y = .int i/\SqT K H p xs/\atI xs i=some v/\Q v H
def rIxS:R2:=fun x y H Q=>∃ z i c,x = .str z/\y = .int i/\z.length<=sizeLine/\atI z.cps.toList i=some c/\Q (.str ⟨#[c]⟩) H
theorem zrz:IxR X (rIxL X.K):=by
 intro value slice pins s σ H x y v u Q I rx ry h hs
 obtain ⟨p,xs,i,z,rfl,rfl,hq,he,q⟩:=h
 cases rx
 obtain ⟨t,rfl⟩:=ry
 obtain ⟨its,r,pl,hz⟩:=I.list hq
 obtain ⟨j,h1,h2,h3,h4,h5⟩:=zlc he
 obtain ⟨w,ew,rw'⟩:=r.get h2
 have hl:=r.length
 have hn:=zjq
 have fin:EP X pins σ Q w s:=⟨z,H,I,rw',q⟩
 by_cases h0:0<=i
 ·have hj:i.toNat=j:=by
   rw [seqIndex_of h0 h5] at h1
   exact Option.some.inj h1
  exact item_listR pl.isList h0 (by omega) (by rw [hj]; simpa using ew) fin hs
 ·have hj:(i+(its.toArray.size:Int)).toNat=j:=by
   rw [seqIndex_neg (by omega) h4] at h1
   rw [List.size_toArray,<- hl]
   exact Option.some.inj h1
  exact subscriptTail_builtinR (x:=w) pl.isList.typeIs slot_list_getitem.lookup
   (wpAny_getItem_list_neg (Q:=fun r s'=>r=w/\EP X pins σ Q r s') pl.isList (by omega) (by rw [List.size_toArray] <;> omega) (by omega) (by rw [hj]; simpa using ew) ⟨rfl,fin⟩) hs
theorem ztk:IxR X (rIxT X.K):=by
 intro value slice pins s σ H x y v u Q I rx ry h hs
 obtain ⟨p,xs,i,z,rfl,rfl,hq,he,q⟩:=h
 cases rx
 obtain ⟨t,rfl⟩:=ry
 obtain ⟨its,r,pl,hz⟩:=I.tuple hq
 obtain ⟨j,h1,h2,h3,h4,h5⟩:=zlc he
 obtain ⟨w,ew,rw'⟩:=r.get h2
 have hl:=r.length
 have hn:=zjq
 have fin:EP X pins σ Q w s:=⟨z,H,I,rw',q⟩
 exact subscriptTail_builtinR (x:=w) pl.typeIs slot_tuple_getitem.lookup
  (getItem_tuple (j:=j) (Q:=fun r s'=>r=w/\EP X pins σ Q r s') pl (by omega) (by omega) (by rw [List.size_toArray,<- hl]; exact h1) (by simpa using ew) ⟨rfl,fin⟩) hs
theorem ztl:IxR X rIxS:=by
 intro value slice pins s σ H x y v u Q I rx ry h hs
 obtain ⟨z,i,c,rfl,rfl,hz,he,q⟩:=h
 obtain ⟨t,rfl⟩:=rx
 obtain ⟨t',rfl⟩:=ry
 obtain ⟨j,h1,h2,h3,h4,h5⟩:=zlc he
 have hl:z.cps.toList.length=z.length:=by simp [Str.length]
 rw [hl] at h1 h4 h5
 have hn:=zjq
 exact tail_any (typeIs_str s z t) slot_str_getitem.lookup (getItem_str (c:=c) (by
  have e1:decide (i < -(2 ^ 63:Int))=false:=decide_eq_false (by omega)
  have e2:decide (i>=2 ^ 63)=false:=decide_eq_false (by omega)
  rw [e1,e2,Bool.or_false]) (by rw [h1]; simpa using h2) ⟨.str ⟨#[c]⟩,H,I.tok _,⟨_,rfl⟩,q⟩) hs
theorem zjx (lo hi:Option Int) (n:Nat):(sliceBounds lo hi none n).1=((HT.sIx n 0 lo:Nat):Int)/\(sliceBounds lo hi none n).2.1=((HT.sIx n n hi:Nat):Int)/\(sliceBounds lo hi none n).2.2 = 1:=by
 refine ⟨?_,?_,rfl⟩
 ·cases lo with
  | none=>simp [sliceBounds,HT.sIx]
  | some i =>
   simp only [sliceBounds,HT.sIx,Option.getD_none,show (1:Int) > 0 by decide,if_true]
   by_cases h:i<0
   ·simp only [h,if_true] <;> omega
   ·simp only [h,if_false] <;> omega
 ·cases hi with
  | none=>simp [sliceBounds,HT.sIx]
  | some i =>
   simp only [sliceBounds,HT.sIx,Option.getD_none,show (1:Int) > 0 by decide,if_true]
   by_cases h:i<0
   ·simp only [h,if_true] <;> omega
   ·simp only [h,if_false] <;> omega
theorem ziy (its:List Value) (lo hi:Option Int):slicePick its.toArray lo hi none=((its.drop (HT.sIx its.length 0 lo)).take (HT.sIx its.length its.length hi-HT.sIx its.length 0 lo)).toArray:=by
 obtain ⟨h1,h2,h3⟩:=zjx lo hi its.toArray.size
 unfold slicePick
 rw [h1,h2,h3]
 simp only [sliceRange_one,pick_run,List.size_toArray] <;> rfl
def rSlL (K:PySem.W.Frag):V->Option Int->Option Int->Hp->VK->Prop:=fun x lo hi H Q=>∃ a xs,x = .ref a/\SqL K H a xs/\∀ p,H p=none->Q (.ref p) (upd H p (.lst (cutV xs lo hi)))
theorem zsa:SlR X (rSlL X.K):=by
 intro pins s σ H x v vl vu lo hi sl Q I rx hs pl pu h
 obtain ⟨a,xs,rfl,hx,q⟩:=h
 cases rx
 obtain ⟨its,r,ht,hz⟩:=I.list hx
 have hlen:=r.length
 refine ⟨"list", _,slot_list_getitem.lookup,ht.isList.typeIs,?_⟩
 refine wpAny_getItem_list_slice ht.isList hs pl pu .none (by simp) ?_ (by rw [List.size_toArray] <;> omega)
 rw [ziy,<- hlen]
 refine ⟨.ref s.heap.objs.size,_,I.laid (t':=s.toks) (o:=.lst (cutV xs lo hi)) (fun b ob q=>Heap.get?_push_of_some _ q) (Nat.le_refl _) ?_,rfl,q _ (I.hok.fresh (Nat.le_refl _))⟩
 exact ⟨Nat.le_trans (zlb xs lo hi) hz,_,0,(r.drop (HT.sIx xs.length 0 lo)).take (HT.sIx xs.length xs.length hi-HT.sIx xs.length 0 lo),Heap.get?_push_size _ rfl⟩
def flatV:V->Bool
 | .non=>true
 | .bl _=>true
 | .int _=>true
 | .str _=>true
 | _=>false
def eqV:V->V->Bool
 | .non,.non=>true
 | .bl a,.bl b=>a == b
 | .bl a,.int b=>(if a then 1 else 0) == b
 | .int a,.bl b=>a == (if b then 1 else 0)
 | .int a,.int b=>a == b
 | .str a,.str b=>a == b
 | _,_=>false
theorem ztm {A:Around} {s:Shared} {y x:V} {u v:Value} (ry:RelV y u) (rx:RelV x v) (fy:flatV y=true) (fx:flatV x=true):SeqAt.EqAt A s u v (eqV y x):=by
 cases y with
 | non =>
  cases ry
  cases x with
  | non=>cases rx; exact SeqAt.EqAt.same _
  | bl b=>cases rx; exact SeqAt.EqAt.none_bool b
  | int b=>obtain ⟨t,rfl⟩:=rx; exact SeqAt.EqAt.none_int b t
  | str b=>obtain ⟨t,rfl⟩:=rx; exact SeqAt.EqAt.none_str b t
  | _=>exact absurd (show false=true from fx) Bool.false_ne_true
 | bl a =>
  cases ry
  cases x with
  | non=>cases rx; exact SeqAt.EqAt.bool_none a
  | bl b=>cases rx; exact SeqAt.EqAt.bool_bool a b
  | int b=>obtain ⟨t,rfl⟩:=rx; exact SeqAt.EqAt.bool_int a b t
  | str b=>obtain ⟨t,rfl⟩:=rx; exact SeqAt.EqAt.bool_str a b t
  | _=>exact absurd (show false=true from fx) Bool.false_ne_true
 | int a =>
  obtain ⟨t',rfl⟩:=ry
  cases x with
  | non=>cases rx; exact SeqAt.EqAt.int_none a t'
  | bl b=>cases rx; exact SeqAt.EqAt.int_bool a t' b
  | int b=>obtain ⟨t,rfl⟩:=rx; exact SeqAt.EqAt.int_int a t' b t
  | str b=>obtain ⟨t,rfl⟩:=rx; exact SeqAt.EqAt.int_str a t' b t
  | _=>exact absurd (show false=true from fx) Bool.false_ne_true
 | str a =>
  obtain ⟨t',rfl⟩:=ry
  cases x with
  | non=>cases rx; exact SeqAt.EqAt.str_none a t'
  | bl b=>cases rx; exact SeqAt.EqAt.str_bool a t' b
  | int b=>obtain ⟨t,rfl⟩:=rx; exact SeqAt.EqAt.str_int a t' b t
  | str b=>obtain ⟨t,rfl⟩:=rx; exact SeqAt.EqAt.str_str a t' b t
  | _=>exact absurd (show false=true from fx) Bool.false_ne_true
 | _=>exact absurd (show false=true from fy) Bool.false_ne_true
def eqU (x:V) (u:Value):Bool:=match u with
 | .none=>eqV .non x
 | .bool b=>eqV (.bl b) x
 | .int i _=>eqV (.int i) x
 | .str z _=>eqV (.str z) x
 | _=>false
theorem zrf {x y:V} {u:Value} (r:RelV y u) (f:flatV y=true):eqU x u=eqV y x:=by
 cases y with
 | non=>cases r; rfl
 | bl b=>cases r; rfl
 | int i=>obtain ⟨t,rfl⟩:=r; rfl
 | str z=>obtain ⟨t,rfl⟩:=r; rfl
 | _=>exact absurd (show false=true from f) Bool.false_ne_true
theorem zld {x:V}:∀ {xs:List V} {us:List Value},Vals xs us->xs.all flatV=true->us.any (eqU x)=xs.any fun y=>eqV y x
 | _,_,.nil,_=>rfl
 | y :: xs,u :: us,.cons r t,f=>by
  rw [List.all_cons,Bool.and_eq_true] at f
  rw [List.any_cons,List.any_cons,zrf r f.1,zld t f.2]
theorem ziz {A:Around} {s:Shared} {x:V} {v:Value} (rx:RelV x v) (fx:flatV x=true):∀ {xs:List V} {us:List Value},Vals xs us->xs.all flatV=true->∀ u∈us,SeqAt.EqAt A s u v (eqU x u)
 | _,_,.nil,_=>fun u hu=>by cases hu
 | y :: xs,u :: us,.cons r t,f=>fun u' hu=>by
  rw [List.all_cons,Bool.and_eq_true] at f
  rcases List.mem_cons.mp hu with rfl | hu
  ·rw [zrf r f.1]; exact ztm r rx f.1 fx
  ·exact ziz rx fx t f.2 u' hu
def inV (x:V) (xs:List V):Bool:=xs.any fun y=>eqV y x
def rIn (K:PySem.W.Frag) (neg:Bool):R2:=fun x y H Q=>∃ p xs,y = .ref p/\(SqL K H p xs\/SqT K H p xs)/\flatV x=true/\xs.all flatV=true/\Q (.bl (if neg then !inV x xs else inV x xs)) H
theorem zjy:OpR X (compareOp .NotIn) (rIn X.K true):=by
 intro pins s σ H x y v u Q I rx ry h
 obtain ⟨p,xs,rfl,hq,fx,fs,q⟩:=h
 cases ry
 rcases hq with hq | hq
 ·obtain ⟨its,r,pl,hz⟩:=I.list hq
  refine SeqAt.notIn_listAt (eqU x) pl.isList (fun w hw=>ziz rx fx r fs w (by simpa using hw)) ⟨.bl _,H,I,rfl,?_⟩
  rw [show its.toArray.any (eqU x)=its.any (eqU x) by simp,zld r fs]
  exact q
 ·obtain ⟨its,r,pl,hz⟩:=I.tuple hq
  refine SeqAt.notIn_tupleAt (eqU x) pl (fun w hw=>ziz rx fx r fs w (by simpa using hw)) ⟨.bl _,H,I,rfl,?_⟩
  rw [show its.toArray.any (eqU x)=its.any (eqU x) by simp,zld r fs]
  exact q
theorem zjz:CallR X (.builtin "len") (fun xs H Q=>∃ p ys,xs = [.ref p]/\(SqL X.K H p ys\/SqT X.K H p ys)/\Q (.int ys.length) H):=by
 intro pins s σ H xs us Q I r h
 obtain ⟨p,ys,rfl,hq,q⟩:=h
 obtain ⟨u,rfl,rx⟩:=vals1 r
 cases rx
 have hn:=zjq
 rcases hq with hq | hq
 ·obtain ⟨its,r',pl,hz⟩:=I.list hq
  have hlen:=r'.length
  exact Calls.call_len_list pl.isList (by simp only [List.size_toArray] <;> omega) ⟨.int ys.length,H,I.tok _,⟨s.toks+1,by rw [List.size_toArray,hlen]⟩,q⟩
 ·obtain ⟨its,r',pl,hz⟩:=I.tuple hq
  have hlen:=r'.length
  exact len_tuple pl (by simp only [List.size_toArray] <;> omega) ⟨.int ys.length,H,I.tok _,⟨s.toks+1,by rw [List.size_toArray,hlen]⟩,q⟩
theorem zgq:CallR X (.builtin "len") (fun xs H Q=>∃ z,xs = [.str z]/\z.length<=sizeLine/\Q (.int z.length) H):=by
 intro pins s σ H xs us Q I r h
 obtain ⟨z,rfl,hz,q⟩:=h
 obtain ⟨u,rfl,t,rfl⟩:=vals1 r
 have hn:=zjq
 exact len_str (by omega) ⟨.int z.length,H,I.tok _,⟨_,rfl⟩,q⟩
def tyV (K:PySem.W.Frag) (T:String) (x:V) (H:Hp):Prop:=match x with
  | .str _=>T = "str"
  | .int _=>T = "int"
  | .ref p=>(T = "list" /\ ∃ xs,SqL K H p xs)\/(T = "tuple" /\ ∃ o,K.lookup p=some o/\o.cls = .type "tuple" /\ o.dict=none) \/
      (T = "dict" /\ ((∃ kvs,H p=some (.dK kvs))\/∃ kvs,H p=some (.dT kvs)))\/(T = "set" /\ ∃ S n,H p=some (.set S n))
  | _=>False
theorem zrg {pins:List (Addr×Obj)} {σ:St} {H:Hp} {s:Shared} {T:String} {x:V} {v:Value} (I:Inv X pins σ H s) (r:RelV x v) (ty:tyV X.K T x H) :
    s.TypeIs v T/\∀ a,v = .ref a->∃ ob,s.heap.get? a=some ob/\ob.dict=none:=by
  cases x with
  | str z =>
    obtain ⟨t,rfl⟩:=r
    cases (show T = "str" from ty)
    exact ⟨typeIs_str s z t,fun _ e=>nomatch e⟩
  | int i =>
    obtain ⟨t,rfl⟩:=r
    cases (show T = "int" from ty)
    exact ⟨typeIs_int s i t,fun _ e=>nomatch e⟩
  | ref p =>
    cases r
    rcases ty with ⟨rfl,xs,hq⟩ | ⟨rfl,o,hk,hc,hd⟩ | ⟨rfl,hk⟩ | ⟨rfl,S,n,hk⟩
    · obtain ⟨its,_,pl,_⟩:=I.list hq
      refine ⟨pl.isList.typeIs,fun a e=>?_⟩
      cases e
      obtain ⟨o,n,e,c,hd,_⟩:=pl
      exact ⟨o,e,hd⟩
    · refine ⟨⟨o,I.kIn p o hk,hc⟩,fun a e=>?_⟩
      cases e
      exact ⟨o,I.kIn _ o hk,hd⟩
    · have z:∃ o,s.heap.get? p=some o/\o.ExactDict:=by
        rcases hk with ⟨kvs,hk⟩ | ⟨kvs,hk⟩
        · obtain ⟨_,_,_,_,o,_,_,e,ex,_⟩:=I.hok p _ hk
          exact ⟨o,e,ex⟩
        · obtain ⟨_,_,_,_,o,_,_,e,ex,_⟩:=I.hok p _ hk
          exact ⟨o,e,ex⟩
      obtain ⟨o,e,ex⟩:=z
      refine ⟨⟨o,e,ex.1⟩,fun a e2=>?_⟩
      cases e2
      exact ⟨o,e,ex.2.1⟩
    · obtain ⟨o,_,_,_,e,ex,_⟩:=I.hok p _ hk
      refine ⟨⟨o,e,ex.1⟩,fun a e2=>?_⟩
      cases e2
      exact ⟨o,e,ex.2.1⟩
  | _=>exact False.elim ty
def tBM0 (K:PySem.W.Frag) (T:String) (r:V->List V->Hp->VK->Prop) (to:TE):TE:=fun σ H Q=>to σ H fun x H1=>tyV K T x H1/\r x [] H1 Q
def tBM (K:PySem.W.Frag) (T:String) (r:V->List V->Hp->VK->Prop) (to:TE) (t:TA):TE:=fun σ H Q=>to σ H fun x H1=>tyV K T x H1/\t σ H1 fun xs H2=>r x xs H2 Q
variable {o e:Expr} {es:List Expr} {to:TE} {t:TA} {name:Str} {apos cpos:Pos} {T id:String} {r:V->List V->Hp->VK->Prop}
theorem ztn (pa:PlainAttrs T) (slot:Slot T name id) (hty:typeOf (.builtin id)=pure (.type "method_descriptor")) (hm:MtR X id r) (ho:PE X o to)
    (hbase:attributeBase o name X.env (eval o X.env)=eval o X.env:=by rfl) (hline:(apos.endLine == cpos.line)=true:=by rfl):PE X (.Call (.Attribute o name apos) [] [] cpos) (tBM0 X.K T r to):=by
  intro pins s σ H Q I h
  refine wpAny_Call_method0_late hbase hline (thn (ho pins s σ H _ I h) fun v s1 ⟨x,H1,I1,r1,ty,q1⟩=>?_)
  obtain ⟨h1,h2⟩:=zrg I1 r1 ty
  exact ⟨T,id,pa,slot,hty,h1,h2,Calls.callWith_builtin rfl (PySem.evalArgs_none (hm pins s1 σ H1 x [] v [] Q I1 r1 .nil q1))⟩
theorem pe_bm (pa:PlainAttrs T) (slot:Slot T name id) (hty:typeOf (.builtin id)=pure (.type "method_descriptor")) (hm:MtR X id r) (ho:PE X o to) (ha:PA X (e :: es) t)
    (hbase:attributeBase o name X.env (eval o X.env)=eval o X.env:=by rfl)
    (hfew:((backTo cpos (starEach (e :: es) X.env)).all (fun x=>!x.1) && (backToKw cpos (keywordEach [] X.env)).all (fun x=>x.1.isSome)
      && decide ((e :: es).length+([]:List Keyword).length+(if ([]:List Keyword).isEmpty then 0 else 1)<30))=true:=by rfl)
    (hline:(apos.endLine == cpos.line)=true:=by rfl) (hs:starEach (e :: es) X.env=(false,eval e X.env) :: starEach es X.env:=by rfl) (hplain:(backTo cpos (starEach es X.env)).any (·.1)=false:=by rfl) :
    PE X (.Call (.Attribute o name apos) (e :: es) [] cpos) (tBM X.K T r to t):=by
  intro pins s σ H Q I h
  refine wpAny_Call_method_late hbase hfew hline rfl (thn (ho pins s σ H _ I h) fun v s1 ⟨x,H1,I1,r1,ty,q1⟩=>?_)
  obtain ⟨h1,h2⟩:=zrg I1 r1 ty
  refine ⟨T,id,pa,slot,hty,h1,h2,?_⟩
  have hA:=ha cpos pins s1 σ H1 _ I1 q1
  rw [hs] at hA ⊢
  refine Calls.callWith_builtin (by show (false || (backTo cpos (starEach es X.env)).any (·.1))=false; rw [hplain] <;> rfl) (Calls.evalArgs_plain ?_)
  exact thn hA fun us s2 ⟨vs,H2,I2,r2,q2⟩=>hm pins s2 σ H2 x vs v us Q I2 r1 r2 q2
end
end L2
namespace L2
open PySem PySem.Spec PyProof.Rows
def MtM (X:Cx) (id:String) (r:V->List V->Hp->VK->Prop):Prop :=
 ∀ (pins:List (Addr×Obj)) (s:Shared) (σ:St) (H:Hp) (x:V) (xs:List V) (v:Value) (us:List Value) (Q:VK),Inv X pins σ H s->RelV x v->Vals xs us->r x xs H Q ->
  wpAny (model X.prog X.w) X.A (call (.builtin id) (v :: us)) (EP X pins σ Q) X.xe s
theorem Vals.one:∀ {x:V} {us:List Value},Vals [x] us->∃ u,us = [u]/\RelV x u
 | _,_,.cons r .nil=>⟨_,rfl,r⟩
theorem Vals.two:∀ {x y:V} {us:List Value},Vals [x,y] us->∃ u v,us = [u,v]/\RelV x u/\RelV y v
 | _,_,_,.cons r (.cons q .nil)=>⟨_,_,rfl,r,q⟩
theorem Vals.zero:∀ {us:List Value},Vals [] us->us = []
 | _,.nil=>rfl
theorem Vals.reverse {xs:List V} {us:List Value} (h:Vals xs us):Vals xs.reverse us.reverse:=by
 induction h with
 | nil=>exact .nil
 | cons r t ih=>rw [List.reverse_cons,List.reverse_cons]; exact Vals.append ih (.cons r .nil)
theorem Vals.rep {xs:List V} {us:List Value} (h:Vals xs us):∀ k:Nat,Vals (List.replicate k xs).flatten (List.replicate k us).flatten
 | 0=>.nil
 | k+1=>by
  rw [List.replicate_succ,List.replicate_succ,List.flatten_cons,List.flatten_cons]
  exact Vals.append h (Vals.rep h k)
theorem zka (its:List Value):∀ (k:Nat) (acc:List Value),
    List.foldl (fun x1 x2=>x1++x2) acc.toArray (List.replicate k its.toArray)=(acc++(List.replicate k its).flatten).toArray
  | 0,acc=>by simp
  | k+1,acc=>by
    have e:acc.toArray++its.toArray=(acc++its).toArray:=by simp
    have e2:(acc++its)++(List.replicate k its).flatten=acc++(List.replicate (k+1) its).flatten:=by
      rw [List.replicate_succ,List.flatten_cons,List.append_assoc]
    rw [<- e2,<- zka its k (acc++its),<- e,List.replicate_succ,List.foldl_cons]
section
variable {X:Cx} {pins:List (Addr×Obj)} {σ:St} {H:Hp} {s:Shared} {l b:Addr} {xs ys zs:List V}
theorem Inv.lset {its its':List Value} {n:Nat} {f:Array Value->Array Value} {t':Nat} (I:Inv X pins σ H s) (hH:H l=some (.lst xs))
    (e:s.heap.get? l=some { cls:=.type "list", data:=.seq its.toArray n }) (hf:f its.toArray=its'.toArray) (hv:Vals ys its') (hz:ys.length<=sizeLine) :
    Inv X pins σ (upd H l (.lst ys)) { s with heap:=s.heap.update l (Obj.mapSeq f),toks:=t' }:=by
  have q:=PySem.IsL.update e f
  rw [hf] at q
  refine I.write (x:=l) (e:=l) (by rw [hH]; exact trivial) (.inl rfl) (fun b' u hb hu=>(Heap.get?_update_other s.heap (Obj.mapSeq f) (Ne.symm hb)).trans hu) ⟨_,q⟩ ?_
  exact ⟨hz,its',_,hv,q⟩
theorem Inv.lnew {its:List Value} {t':Nat} (I:Inv X pins σ H s) (hv:Vals ys its) (hz:ys.length<=sizeLine) :
    Inv X pins σ (upd H s.heap.objs.size (.lst ys)) { s with heap:=s.heap.push { cls:=.type "list", data:=.seq its.toArray },toks:=t' } :=
  I.laid (fun _ _ q=>Heap.get?_push_of_some _ q) (Nat.le_refl _) ⟨hz,its,0,hv,Heap.get?_push_size _ rfl⟩
theorem Inv.fresh (I:Inv X pins σ H s):H s.heap.objs.size=none:=I.hok.fresh (Nat.le_refl _)
theorem Inv.lstM (I:Inv X pins σ H s) (hH:H l=some (.lst xs)):xs.length<=sizeLine/\∃ (its:List Value) (n:Nat),Vals xs its/\xs.length=its.length/\s.heap.get? l=some { cls:=.type "list", data:=.seq its.toArray n }:=by
 obtain ⟨z,its,n,r,e⟩:=I.hok l _ hH
 exact ⟨z,its,n,r,r.length,e⟩
theorem zqa {n:Nat} (h:n<=sizeLine):Builtin.List.listTooLong n=false:=by
 unfold Builtin.List.listTooLong
 exact decide_eq_false (by omega)
end
section
variable {X:Cx}
def zoc:V->List V->Hp->VK->Prop:=fun x vs H Q=>∃ l xs y,x = .ref l/\vs = [y]/\H l=some (.lst xs)/\xs.length<sizeLine/\Q .non (upd H l (.lst (xs++[y])))
theorem zcx:MtM X "list.append" zoc:=by
 intro pins s σ H x vs v us Q I rx rv h
 obtain ⟨l,xs,y,rfl,rfl,hH,hz,q⟩:=h
 cases rx
 obtain ⟨u,rfl,ru⟩:=rv.one
 obtain ⟨z,its,n,r,hl,e⟩:=I.lstM hH
 refine call_meets F.slot_list_append ⟨_,e,rfl⟩ F.entry_list_append (F.args_list_append_2 _ _) (PySem.list_append l its.toArray n u (by rw [List.size_toArray]; omega)) ⟨e,?_⟩
 refine ⟨.non,_,I.lset (its':=its++[u]) hH e (by simp) (r.append (.cons ru .nil)) ?_,rfl,q⟩
 rw [List.length_append,List.length_singleton]
 omega
def zqb:V->List V->Hp->VK->Prop:=fun x vs H Q=>∃ l xs,x = .ref l/\vs = []/\H l=some (.lst xs)/\Q .non (upd H l (.lst xs.reverse))
theorem zna:MtM X "list.reverse" zqb:=by
 intro pins s σ H x vs v us Q I rx rv h
 obtain ⟨l,xs,rfl,rfl,hH,q⟩:=h
 cases rx
 have hus:=rv.zero
 subst hus
 obtain ⟨z,its,n,r,hl,e⟩:=I.lstM hH
 refine call_meets F.slot_list_reverse ⟨_,e,rfl⟩ F.entry_list_reverse (F.args_list_reverse_1 _) (AutoSeq1.list_reverse_list_0 l its.toArray n (by rw [List.size_toArray]; omega)) ⟨e,?_⟩
 refine ⟨.non,_,I.lset (its':=its.reverse) hH e (by simp) r.reverse ?_,rfl,q⟩
 rw [List.length_reverse]
 omega
def rCat:R2:=fun x y H Q=>∃ l b xs zs,x = .ref l/\y = .ref b/\H l=some (.lst xs)/\H b=some (.lst zs)/\xs.length+zs.length<=sizeLine/\∀ p,H p=none->Q (.ref p) (upd H p (.lst (xs++zs)))
theorem zod:OpR X (binaryOp .Add) rCat:=by
 intro pins s σ H x y v u Q I rx ry h
 obtain ⟨l,b,xs,zs,rfl,rfl,hH,hB,hz,q⟩:=h
 cases rx
 cases ry
 obtain ⟨z,its,n,r,hl,e⟩:=I.lstM hH
 obtain ⟨z2,its2,n2,r2,hl2,e2⟩:=I.lstM hB
 refine PySem.P.add_list e e2 ?_ (by rw [List.size_toArray,List.size_toArray]; omega)
 have ea:its.toArray++its2.toArray=(its++its2).toArray:=by simp
 rw [ea]
 exact ⟨.ref _,_,I.lnew (t':=s.toks) (r.append r2) (by rw [List.length_append]; omega),rfl,q _ I.fresh⟩
def rRep:R2:=fun x y H Q=>∃ l k xs,x = .ref l/\y = .int k/\H l=some (.lst xs)/\-(2 ^ 63)<=k/\k<2 ^ 63/\xs.length*k.toNat<=sizeLine /\
 ∀ p,H p=none->Q (.ref p) (upd H p (.lst (List.replicate k.toNat xs).flatten))
theorem zoe {α:Type} (xs:List α) (k:Nat):(List.replicate k xs).flatten.length=k*xs.length:=by
 induction k with
 | zero=>simp
 | succ k ih=>rw [List.replicate_succ,List.flatten_cons,List.length_append,ih,Nat.succ_mul,Nat.add_comm]
theorem zto:OpR X (binaryOp .Mult) rRep:=by
 intro pins s σ H x y v u Q I rx ry h
 obtain ⟨l,k,xs,rfl,rfl,hH,h1,h2,hz,q⟩:=h
 cases rx
 obtain ⟨t,rfl⟩:=ry
 obtain ⟨z,its,n,r,hl,e⟩:=I.lstM hH
 have hlen:its.toArray.size*k.toNat<=sizeLine:=by rw [List.size_toArray,<- hl]; exact hz
 have hcap:¬ its.toArray.size*k.toNat > (2 ^ 63-1) / 8:=by
  have:(sizeLine:Nat)<=(2 ^ 63-1) / 8:=by decide
  omega
 have hfit:¬ (!Builtin.List.listFitsIndex k)=true:=by
  rw [fitsIndex_both h1 h2]
  exact Bool.false_ne_true
 have hlong:¬ Builtin.List.listTooLong (its.toArray.size*k.toNat)=true:=by
  rw [zqa hlen]
  exact Bool.false_ne_true
 have hnew:List.foldl (fun x1 x2=>x1++x2) #[] (List.replicate (if its.toArray.isEmpty=true then 0 else k.toNat) its.toArray)=(List.replicate k.toNat its).flatten.toArray:=by
  have f0:∀ m:Nat,List.foldl (fun x1 x2=>x1++x2) #[] (List.replicate m its.toArray)=(List.replicate m its).flatten.toArray:=fun m=>by
   have:=zka its m []
   rw [List.nil_append] at this
   exact this
  rw [f0]
  cases its with
  | nil=>simp
  | cons a r'=>rw [if_neg (by simp)]
 refine wpAny_binaryOp_repeat_ref (T := "list") (U := "int") (by decide) ⟨_,e,rfl⟩ (fun s'=>typeIs_int s' k t) noFill_list_mul F.fills_int_mul F.slot_int_rmul repeat_list F.slot_int_index.lookup
  (call_meets F.slot_int_rmul (typeIs_int s k t) F.entry_int_rmul (F.args_int_rmul_2 _ _) (int___rmul___int_list k t l its.toArray n)
   ⟨e,rfl,⟨_,e,rfl⟩,call_meets F.slot_list_mul ⟨_,e,rfl⟩ F.entry_list_mul (F.args_list_mul_2 _ _) (AutoListH.list___mul___list_int_3 l its.toArray n k t hfit hcap hlong) ⟨e,?_⟩⟩)
 rw [hnew]
 exact ⟨.ref _,_,I.lnew (t':=s.toks) (r.rep k.toNat) (by rw [zoe,Nat.mul_comm]; exact hz),rfl,q _ I.fresh⟩
end
section
variable {prog:Program} {w:World} {A:Around} {E:Value->Shared->Prop} {s:Shared}
end
section
variable {X:Cx}
end
end L2
namespace Att
open PySem PySem.W PySem.Calls PyProof.Rows
theorem zhh {P:Params} {h:Heap}:∀ (ns:List Int) (vs:List Value),WellAll P h vs (ns.map WData.int)->IntsAre vs ns:=by
 intro ns
 induction ns with
 | nil =>
  intro vs w
  rw [List.map_nil] at w
  cases w
  exact .nil
 | cons n ns ih =>
  intro vs w
  rw [List.map_cons] at w
  cases w with
  | cons a b =>
   cases a
   exact .cons _ _ (ih _ b)
theorem zof {l:OpenLaw} {n:Nat} (hn:l.most=some n) {P:Params} {h:Heap} {args:List WData} {vals:List Value}
    (hpre:l.row.toRowW.claim.pre args=true) (hwl:WellAll P h vals args) :
    ∃ a vs ns,vals = [Value.ref a]/\args = [WData.list (ns.map WData.int)]/\h.get? a=some { cls:=.type "list", data:=.seq vs.toArray }/\IntsAre vs ns/\ns.length<=n:=by
  have hsh:WShape.hasAll [] args [.list .int] = true:=(pre_splitW hpre).1
  have hc:l.pre.holds [] { args:=args } = true:=(pre_splitW hpre).2
  obtain ⟨d,r,rfl,h1,h2⟩:=hasAllW_cons hsh
  obtain rfl:=hasAllW_nil h2
  obtain ⟨xs,rfl,h3⟩:=hasW_list h1
  obtain ⟨ns,rfl⟩:=items_int h3
  have hlen:ns.length<=n:=by
    unfold OpenLaw.pre at hc
    have h4:(WTm.not (.lt (.lit (.int (n:Int))) (.len (.arg 0)))).holds [] { args:=[.list (ns.map .int)] } = true:=by
      have h4:=(holds_andW hc).1
      rw [hn] at h4
      exact h4
    have h5:=condW_of h4 (w_not (w_lt w_lit (w_len_list (w_arg rfl))))
    rw [List.length_map] at h5
    refine Nat.le_of_not_lt fun q=>?_
    have q':(n:Int)<((ns.length:Nat):Int):=by omega
    first
      | (rw [decide_eq_true q'] at h5; exact absurd h5 (by decide))
      | (simp at h5; omega)
  cases hwl with
  | cons w1 w2 =>
    cases w2
    cases w1 with
    | list ho hall=>exact ⟨_,_,ns,rfl,rfl,ho,zhh ns _ hall,hlen⟩
theorem zog (l:OpenLaw) (args:List WData):l.row.toRowW.claim.post args (.bool true) args=true :=
 postW_of (r:=l.row.toRowW) (X:=(true == true))
  (show WShape.has [] (.bool true) .bool=true by first | rfl | decide | simp [WShape.has,WShape.arms,WShape.armsAll])
  (show (WTm.eq .res (.lit (.bool true))).value [] { args:=args,res:=some (.bool true),after:=args } = some (.bool (true == true)) from w_eq_bool (w_res rfl) w_lit) rfl
theorem attach_call {l:OpenLaw} {n:Nat} {q:Program} {loose:List Str} {XP:(Str->Option Value)->Heap->Prop} {YP:World->Heap->Prop} {d:DefRec}
    (hn:l.most=some n) (hdf:d.params.defaults = [])
    (call:∀ (w:World) (s₀ s₁:Shared) (mg mb:Str->Option Value) (fa:Addr) (o:Obj) (pm cd doc:Value) (a:Addr) (vs:List Value) (ns:List Int),
      Ground q loose [] XP w s₀ mg mb s₁.heap->YP w s₁.heap ->
      s₁.heap.get? fa=some o->o.data = .func (docDef d.name d.params d.body d.scope pm cd doc)->s₁.heap.CodeRec cd d.name->mg d.name=some (.ref fa) ->
      s₁.heap.get? a=some { cls:=.type "list", data:=.seq vs.toArray }->IntsAre vs ns->ns.length<=n->s₁.gens = #[] ->
      codeAny (model l.prog w) callerA (.call (.ref fa) ⟨[.ref a],[]⟩) (fun r s'=>r = .ok (.ret (.bool true))/\OldK s₁.heap s'.heap/\s'.os=s₁.os/\AllBare s'.gens) s₁) :
    WalkO q loose XP YP l.row.toRowW d [] (fun f vs=>PySem.call f vs):=by
  intro w s₀ s₁ mg mb G Y fa o pm cd doc dV kV ho hd hcd hD hmg hg args vals as hpre hlay hrd hwl hlo
  obtain rfl:dV = .none:=Dflts.none hD hdf
  obtain rfl:kV = .none:=Dflts.noKw hD
  obtain ⟨a,vs,ns,rfl,rfl,hobj,hints,hlen⟩:=zof hn hpre hwl
  refine enter_call (codeAny_mono (call w s₀ s₁ mg mb fa o pm cd doc a vs ns G Y ho (fd_plain hd) hcd hmg hobj hints hlen hg) fun r s' hq=>?_)
  obtain ⟨rfl,h2,h3,h4⟩:=hq
  exact ⟨.inl ⟨.bool true,.bool true,[],rfl,fun _=>rfl,.bool true,zog l _,fun _=>⟨List.Pairwise.nil,fun _ hm=>(nomatch hm)⟩⟩,h2,h3,h4⟩
section
variable {prog:Program} {w:World} {A:Around} {E:Value->Shared->Prop} {s:Shared} {K:Frag}
end
end Att
namespace L2
open PySem PySem.Spec PyProof.Rows
theorem zkb:∀ {vs:List Value} {ns:List Int},IntsAre vs ns->Vals (ns.map V.int) vs
 | _,_,.nil=>.nil
 | _,_,.cons n t h=>.cons ⟨t,rfl⟩ (zkb h)
def Only (H:Hp):Prop:=∀ b,H b=none\/∃ o xs,H b=some (.frz o (.lst xs))
theorem law_call {P:Program} {w:World} {K:PySem.W.Frag} {mg mb:Str->Option Value} {CX:CXT} {k:Nat} {fa a:Addr} {fd:FuncData} {x:Str} {sp:Sp} {s₁:Shared} {vs:List Value} {ns:List Int}
    (KX:K.In s₁.heap) (hns:s₁.heap.Ns mainGlobals mg) (hb:s₁.heap.Ns builtinsNs mb) (hbb:∀ x:Str,x ≠ "__name__" -> mb x=bootBuiltins x) (hlim:s₁.heap.NoLimit) (hg:s₁.gens = #[])
    (ha:s₁.heap.get? a=some { cls:=.type "list", data:=.seq vs.toArray }) (hi:IntsAre vs ns) (hl:ns.length<=sizeLine) (hr:Room k callerA)
    (F:∀ base:Heap,K.In base->base.Ns mainGlobals mg->FnOk P w K mg base CX k fa fd [x] sp) (hbind:∀ (s:Shared) (u:Value),BindsTo s fd ⟨[u],[]⟩ [(x,u)])
    (hsp:∀ H:Hp,Only H->SqL K H a (ns.map V.int)->sp [.ref a] H (fun v _=>v = .bl true) fun _ _ _=>False)
    (hCX:∀ H e s',CX [] H s₁ (fun _ _ _=>False) e s'->False) :
    codeAny (model P w) callerA (.call (.ref fa) ⟨[.ref a],[]⟩) (fun r s'=>r = .ok (.ret (.bool true))/\OldK s₁.heap s'.heap/\s'.os=s₁.os/\AllBare s'.gens) s₁:=by
  have rv:=zkb hi
  have lenV:=hi.length
  have core:∀ H:Hp,Only H->SqL K H a (ns.map V.int)->HOk P w H s₁.heap->(∀ b,H b≠none->b=a)->(H a≠none->K.lookup a=none) ->
      codeAny (model P w) callerA (.call (.ref fa) ⟨[.ref a],[]⟩) (fun r s'=>r = .ok (.ret (.bool true))/\OldK s₁.heap s'.heap/\s'.os=s₁.os/\AllBare s'.gens) s₁:=by
    intro H hO hS hok hA hK
    have base_of:∀ {b:Addr} {o:Obj},s₁.heap.get? b=some o->H b=none->(hidT s₁.heap H).get? b=some o:=fun e n=>zpt e n
    have noA:∀ {b:Addr} {o:Obj} {es:Array DictEntry} {ep:Nat},s₁.heap.get? b=some o->o.data = .dict es ep->H b=none:=fun {b o es ep} e d=>by
      cases q:H b with
      | none=>rfl
      | some u =>
        have e':b=a:=hA b (by rw [q]; simp)
        subst e'
        rw [ha] at e; cases e
        have d':Data.seq vs.toArray _=Data.dict es ep:=d
        cases d'
    have nsK:∀ {b:Addr} {m:Str->Option Value},s₁.heap.Ns b m->(hidT s₁.heap H).Ns b m:=fun {b m} ⟨o,es,ep,e,d,r⟩=>⟨o,es,ep,base_of e (noA e d),d,r⟩
    have hKb:K.In (hidT s₁.heap H):=fun b o e=>base_of (KX b o e) (by
      cases q:H b with
      | none=>rfl
      | some u =>
        have e':b=a:=hA b (by rw [q]; simp)
        subst e'
        rw [hK (by rw [q]; simp)] at e; cases e)
    have hM:Mod K mg (hidT s₁.heap H):=⟨hKb,nsK hns,⟨mb,nsK hb,hbb⟩,let ⟨mc,h1,h2⟩:=hlim; ⟨mc,nsK h1,h2⟩⟩
    have e0:Env0 P w K mg (hidT s₁.heap H) callerA [] s₁ H:=⟨rfl,hM,fun b o e=>zrs e,Nat.le_of_eq (znm _ _),trivial,fun b hb=>absurd (show b∈([]:List Addr) from hb) (by simp),hok,.of_eq hg⟩
    refine codeAny_mono ((F _ hKb (nsK hns)).run callerA [] s₁ H ⟨[.ref a],[]⟩ [.ref a] [.ref a] _ _ hr e0 (hbind s₁ (.ref a)) (.cons rfl .nil) (hsp H hO hS)) fun r s' h=>?_
    cases r with
    | error e=>exact (hCX H e s' h).elim
    | ok fl =>
      cases fl with
      | next=>exact False.elim h
      | brk=>exact False.elim h
      | cont=>exact False.elim h
      | ret u =>
        obtain ⟨v,H',os,bare,un,hok',r',q⟩:=h
        have q':v = .bl true:=q
        subst q'
        obtain rfl:u=Value.bool true:=r'
        refine ⟨rfl,OldK.of_keep fun b o e=>?_,os,bare⟩
        cases q:H b with
        | none=>exact un.keep b o e q (by intro z; exact absurd (show b∈([]:List Addr) from z) (by simp)) (by simp)
        | some u =>
          rcases hO b with z | ⟨ob,xs,z⟩
          · rw [q] at z; cases z
          · have z2:=un.frzs b ob _ z
            obtain ⟨e1,_⟩:=hok b _ z
            obtain ⟨e2,_⟩:=hok' b _ z2
            rw [e] at e1; cases e1
            exact e2
  cases hk:K.lookup a with
  | some o =>
    have e:=KX a o hk
    rw [ha] at e
    cases e
    refine core (fun _=>none) (fun _=>.inl rfl) (.inr ⟨_,vs.toArray,_,hk,rfl,rfl,rfl,by rw [List.size_toArray,lenV]; exact hl,by simpa using rv⟩) (fun b u z=>by have z':(none:Option HO)=some u:=z; cases z') (fun b z=>absurd rfl z) fun z=>absurd rfl z
  | none =>
    refine core (fun b=>if b=a then some (.frz { cls:=.type "list", data:=.seq vs.toArray } (.lst (ns.map V.int))) else none) (fun b=>?_) (.inl (.inr ⟨{ cls:=.type "list", data:=.seq vs.toArray },if_pos rfl⟩)) (fun b u z=>?_) (fun b z=>?_) fun _=>hk
    · by_cases hb:b=a
      · exact .inr ⟨_,_,if_pos hb⟩
      · exact .inl (if_neg hb)
    · by_cases hb:b=a
      · have z':=(if_pos hb).symm.trans z
        cases z'
        subst hb
        exact ⟨ha,by rw [List.length_map]; exact hl,vs,_,rv,ha⟩
      · have z':=(if_neg hb).symm.trans z
        cases z'
    · by_cases hb:b=a
      · exact hb
      · exact absurd (if_neg hb) z
end L2
namespace L2
open PySem PySem.Spec PyProof.Rows
abbrev KOf {K:PySem.W.Frag} {h:Heap} (_:K.In h):PySem.W.Frag:=K
theorem walk_of {l:PySem.W.OpenLaw} {n k:Nat} {q:Program} {loose:List Str} {XP:(Str->Option Value)->Heap->Prop} {YP:World->Heap->Prop} {d:DefRec} {K:Params->PySem.W.Frag} {CX:World->CXT} {sp:World->Sp} {x:Str}
    (hn:l.most=some n) (hn2:n<=sizeLine) (hdf:d.params.defaults = []) (hr:Room k callerA)
    (hY:∀ (w:World) (h:Heap),YP w h->(K w.params).In h)
    (F:∀ (w:World) (mg:Str->Option Value) (fa:Addr) (h:Heap),(K w.params).In h->h.Ns mainGlobals mg->mg d.name=some (.ref fa) ->
      ∃ fd:FuncData,(∀ (s:Shared) (u:Value),BindsTo s fd ⟨[u],[]⟩ [(x,u)]) /\
        ∀ base:Heap,(K w.params).In base->base.Ns mainGlobals mg->FnOk l.prog w (K w.params) mg base (CX w) k fa fd [x] (sp w))
    (hsp:∀ (w:World) (H:Hp) (a:Addr) (ns:List Int),ns.length<=n->Only H->SqL (K w.params) H a (ns.map V.int)->sp w [.ref a] H (fun v _=>v = .bl true) fun _ _ _=>False)
    (hCX:∀ (w:World) (H:Hp) (s:Shared) (e:Value) (s':Shared),CX w [] H s (fun _ _ _=>False) e s'->False) :
    PySem.W.WalkO q loose XP YP l.row.toRowW d [] (fun f vs=>PySem.call f vs):=by
  refine Att.attach_call hn hdf fun w s₀ s₁ mg mb fa o pm cd doc a vs ns G Y ho hd hcd hmg hobj hints hlen hg=>?_
  have KX:=hY w _ Y
  obtain ⟨fd,hb,hF⟩:=F w mg fa _ KX G.T.g hmg
  exact law_call KX G.T.g G.T.b G.T.builtins G.T.nolimit hg hobj hints (Nat.le_trans hlen hn2) hr hF hb (fun H hO hS=>hsp w H a ns hlen hO hS) fun H e s'=>hCX w H s₁ e s'
end L2
namespace L2
open PySem PySem.Spec PyProof.Rows
def zbn (s:Stmt) (j:Nat):Stmt:=match s with
 | .ClassDef _ _ _ body _ _ _ _ _ _ _=>body.getD j (.Pass ⟨0,0,0,0⟩)
 | _=>.Pass ⟨0,0,0,0⟩
def zao (s:Stmt):Arguments:=match s with
 | .FunctionDef _ a _ _ _ _ _ _ _ _=>a
 | _=>{ posonlyargs:=[],args:=[],vararg:=none,kwonlyargs:=[],kw_defaults:=[],kwarg:=none,defaults:=[] }
def zam (s:Stmt):List Stmt:=match s with
 | .FunctionDef _ _ b _ _ _ _ _ _ _=>b
 | _=>[]
def zac (s:Stmt):Scope:=match s with
 | .FunctionDef _ _ _ _ _ _ sc _ _ _=>sc
 | _=>{ kind:=.function,names:=[],isGenerator:=false,isCoroutine:=false }
abbrev CX0:CXT:=fun _ _ _ _ _ _=>False
abbrev E0:XK:=fun _ _ _=>False
structure Fun (K:PySem.W.Frag) (x qual:Str) (st:Stmt) (f:Addr) (fd:FuncData):Prop where
 ex:∃ (oc:Value) (od:Option Addr) (kV doc pm:Value) (an:Option Addr) (cdv ct:Value) (osl:Array (Option Value)),
  fd=PySem.W.fnOf x qual (zao st) (zam st) (zac st) .none kV doc pm an cdv ct/\K.lookup f=some ⟨oc,od,.func fd,osl⟩/\PySem.W.codeIn K cdv qual=true
 kp:PySem.W.keepIn K (.ref f)=true
section
variable {P:Program} {w:World} {K:PySem.W.Frag} {mg:Str->Option Value} {base:Heap}
theorem Fun.ok {x qual:Str} {st:Stmt} {f:Addr} {fd:FuncData} {N ps:List Str} {k:Nat} {sp:Sp} (F:Fun K x qual st f fd) (S:FnScope N ps (zac st)) (len:∀ vs H Q E,sp vs H Q E->vs.length=ps.length)
    (hbody:∀ (cdv:Value) (A:Around) (outer:List Env) (s:Shared) (H:Hp) (vs:List V) (Q:VK) (E:XK),Room k (A.deeper (envOfC qual (zac st) s.heap.objs.size f cdv))->sp vs H Q E ->
      ∃ t,PSs (cxOf CX0 P w K mg base N qual (zac st) f cdv A outer s H E).nox (zam st) t/\t { nx:=fun _ H'=>Q .non H',rt:=Q } (start N vs) H):FnOk P w K mg base CX0 (k+1) f fd ps sp:=by
  obtain ⟨oc,od,kV,doc,pm,an,cdv,ct,osl,rfl,lk,hcd⟩:=F.ex
  refine fn_of lk hcd S len fun A outer s H vs Q E hr hsp=>?_
  obtain ⟨t,h,q⟩:=hbody cdv A outer s H vs Q E hr hsp
  exact ⟨t,h.nox,q⟩
theorem Fun.binds {x qual:Str} {st:Stmt} {f:Addr} {fd:FuncData} {ps:List Str} (F:Fun K x qual st f fd)
    (h:∀ (kV doc pm:Value) (an:Option Addr) (cdv ct:Value) (us:List Value),us.length=ps.length->bindArgs (PySem.W.fnOf x qual (zao st) (zam st) (zac st) .none kV doc pm an cdv ct) ⟨us,[]⟩ = pure (ps.zip us)):Binds K fd ps []:=by
  obtain ⟨oc,od,kV,doc,pm,an,cdv,ct,osl,rfl,lk,hcd⟩:=F.ex
  exact .all (h kV doc pm an cdv ct)
theorem zax {x qual:Str} {st:Stmt} {f:Addr} {oc:Value} {od an:Option Addr} {osl:Array (Option Value)} {kV doc pm cdv ct:Value} (l:K.lookup f=some ⟨oc,od,.func (PySem.W.fnOf x qual (zao st) (zam st) (zac st) .none kV doc pm an cdv ct),osl⟩)
    (c:PySem.W.codeIn K cdv qual=true) (k:PySem.W.keepIn K (.ref f)=true):Fun K x qual st f (PySem.W.fnOf x qual (zao st) (zam st) (zac st) .none kV doc pm an cdv ct):=⟨⟨oc,od,kV,doc,pm,an,cdv,ct,osl,rfl,l,c⟩,k⟩
end
theorem hu_of {A:Around} {k:Nat} (hr:Room k A):A.units+1<cLine:=Nat.lt_of_le_of_lt (Nat.add_le_add_left (by decide:1<=64) _) hr.units
section
variable {X:Cx}
theorem pv (i:Nat) {x:Str} {pos:Pos} (hN:X.N[i]? = some x:=by rfl) (hv:Vis X.env.scope x:=by first | exact Or.inl rfl | exact Or.inr (Or.inl rfl) | exact Or.inr (Or.inr rfl)) (hd:(x == ("__debug__" : Str))=false:=by decide)
    (hcd:(x == ("__classdict__" : Str))=false:=by decide):PE X (.Name x pos) (tVar i):=zth hN hv hd hcd
end
theorem ite2 {c A B:Prop} [Decidable c] (h1:c->A) (h2:¬ c->B):if c then A else B:=by
 by_cases h:c
 ·rw [if_pos h]
  exact h1 h
 ·rw [if_neg h]
  exact h2 h
def Same (H H':Hp):Prop:=∀ b o,H b=some o->H' b=some o
theorem Same.refl (H:Hp):Same H H:=fun _ _ h=>h
theorem Same.trans {H H1 H2:Hp} (a:Same H H1) (b:Same H1 H2):Same H H2:=fun c o h=>b c o (a c o h)
theorem Same.free {H H':Hp} (e:Same H H') {l:Addr} (h:H' l=Option.none):H l=Option.none:=by
 cases q:H l with
 | none=>rfl
 | some o =>
  rw [e l o q] at h
  cases h
theorem Same.seq {K:PySem.W.Frag} {H H':Hp} {a:Addr} {xs:List V} (e:Same H H') (h:SqL K H a xs):SqL K H' a xs:=by
 rcases h with (h | ⟨o,h⟩) | h
 ·exact .inl (.inl (e _ _ h))
 ·exact .inl (.inr ⟨o,e _ _ h⟩)
 ·exact .inr h
end L2
set_option maxHeartbeats 4000000
namespace L2
open PySem PySem.Spec PyProof.Rows
theorem elc {α:Type} {P:List α->Prop} {n:Nat} (h:∀ x r,r.length=n->P (x :: r)):∀ us:List α,us.length=n+1->P us
 | [],e=>absurd e (by simp)
 | x :: r,e=>h x r (by simpa using e)
theorem el0 {α:Type} {P:List α->Prop} (h:P []):∀ us:List α,us.length = 0->P us
 | [],_=>h
 | _ :: _,e=>absurd e (by simp)
theorem el1 {α:Type} {P:List α->Prop} (h:∀ x0,P [x0]):∀ us:List α,us.length = 1->P us:=elc fun x r e=>el0 (P:=fun r=>P (x :: r)) (h x) r e
theorem el2 {α:Type} {P:List α->Prop} (h:∀ x0 x1,P [x0,x1]):∀ us:List α,us.length = 2->P us:=elc fun x r e=>el1 (P:=fun r=>P (x :: r)) (h x) r e
theorem el3 {α:Type} {P:List α->Prop} (h:∀ x0 x1 x2,P [x0,x1,x2]):∀ us:List α,us.length = 3->P us:=elc fun x r e=>el2 (P:=fun r=>P (x :: r)) (h x) r e
theorem el4 {α:Type} {P:List α->Prop} (h:∀ x0 x1 x2 x3,P [x0,x1,x2,x3]):∀ us:List α,us.length = 4->P us:=elc fun x r e=>el3 (P:=fun r=>P (x :: r)) (h x) r e
theorem el5 {α:Type} {P:List α->Prop} (h:∀ x0 x1 x2 x3 x4,P [x0,x1,x2,x3,x4]):∀ us:List α,us.length = 5->P us:=elc fun x r e=>el4 (P:=fun r=>P (x :: r)) (h x) r e
theorem el6 {α:Type} {P:List α->Prop} (h:∀ x0 x1 x2 x3 x4 x5,P [x0,x1,x2,x3,x4,x5]):∀ us:List α,us.length = 6->P us:=elc fun x r e=>el5 (P:=fun r=>P (x :: r)) (h x) r e
end L2
namespace Sw
def dv (a b:Int):Int:=(Int.gcd a b:Nat)
theorem dv_nn (a b:Int):0<=dv a b:=Int.natCast_nonneg _
theorem dv_l (a b:Int):dv a b ∣ a:=Int.gcd_dvd_left a b
theorem dv_r (a b:Int):dv a b ∣ b:=Int.gcd_dvd_right a b
theorem zoh (a b:Int):dv (-a) b=dv a b:=by unfold dv; rw [Int.neg_gcd]
theorem zoi (a b:Int):dv a (-b)=dv a b:=by unfold dv; rw [Int.gcd_neg]
theorem dv_zero (a:Int) (h:0<=a):dv a 0=a:=by
 unfold dv; rw [Int.gcd_zero_right]; omega
theorem ztp {a b:Int} (h:dv a b = 0):a = 0/\b = 0:=by
 unfold dv at h
 exact Int.gcd_eq_zero_iff.mp (by omega)
theorem dv_pos {a b:Int} (h:b≠0):0<dv a b:=by
 have:=dv_nn a b
 rcases Int.lt_or_eq_of_le this with q | q
 ·exact q
 ·exact absurd (ztp q.symm).2 h
theorem zrh {a b c:Int} (h1:c ∣ a) (h2:c ∣ b):c ∣ dv a b:=Int.dvd_coe_gcd h1 h2
theorem ztq {a b c d:Int} (h:∀ x:Int,(x ∣ a/\x ∣ b)↔(x ∣ c/\x ∣ d)):dv a b=dv c d:=by
 have h1:dv a b ∣ dv c d:=zrh ((h _).mp ⟨dv_l a b,dv_r a b⟩).1 ((h _).mp ⟨dv_l a b,dv_r a b⟩).2
 have h2:dv c d ∣ dv a b:=zrh ((h _).mpr ⟨dv_l c d,dv_r c d⟩).1 ((h _).mpr ⟨dv_l c d,dv_r c d⟩).2
 exact Int.dvd_antisymm (dv_nn _ _) (dv_nn _ _) h1 h2
theorem dv_step (a b:Int):dv b (a % b)=dv a b:=by
 refine ztq fun x=>⟨fun ⟨h1,h2⟩=>⟨?_,h1⟩,fun ⟨h1,h2⟩=>⟨h2,?_⟩⟩
 ·have e:=Int.mul_ediv_add_emod a b
  rw [<- e]
  exact Int.dvd_add (Int.dvd_trans h1 (Int.dvd_mul_right b _)) h2
 ·rw [Int.emod_def]
  exact Int.dvd_sub h1 (Int.dvd_trans h2 (Int.dvd_mul_right b _))
theorem dv_abs (a b:Int):dv (if a<0 then -a else a) (if b<0 then -b else b)=dv a b:=by
 split <;> split <;> simp only [zoh,zoi]
theorem zqc (g a b:Int) (h:0<=g):dv (g*a) (g*b)=g*dv a b:=by
 unfold dv; rw [Int.gcd_mul_left]
 have:((g.natAbs*a.gcd b:Nat):Int)=(g.natAbs:Int)*(a.gcd b:Nat):=by simp
 rw [this]; congr 1; omega
theorem zsb {a b:Int} (h:dv a b≠0):dv (a / dv a b) (b / dv a b) = 1:=by
 have hp:0<dv a b:=by have:=dv_nn a b; omega
 have e1:a=dv a b*(a / dv a b):=(Int.mul_ediv_cancel' (dv_l a b)).symm
 have e2:b=dv a b*(b / dv a b):=(Int.mul_ediv_cancel' (dv_r a b)).symm
 have e:dv a b=dv a b*dv (a / dv a b) (b / dv a b):=by
  have:=zqc (dv a b) (a / dv a b) (b / dv a b) (Int.le_of_lt hp)
  rw [<- e1,<- e2] at this
  exact this
 have e':dv a b*1=dv a b*dv (a / dv a b) (b / dv a b):=by rw [Int.mul_one]; exact e
 exact (Int.eq_of_mul_eq_mul_left (by omega) e').symm
structure Fr (n d:Int):Prop where
 pos:0<d
 low:dv n d = 1
theorem zoj {n d x:Int} (h:dv n d = 1) (q:d ∣ n*x):d ∣ x:=by
 have h':Nat.Coprime d.natAbs n.natAbs:=by
  unfold dv at h
  have:Int.gcd n d = 1:=by omega
  unfold Nat.Coprime
  rw [Nat.gcd_comm]; exact this
 have q':d.natAbs ∣ n.natAbs*x.natAbs:=by rw [<- Int.natAbs_mul]; exact Int.natAbs_dvd_natAbs.mpr q
 exact Int.natAbs_dvd_natAbs.mp (h'.dvd_of_dvd_mul_left q')
theorem Fr.uniq {n d m e:Int} (h:Fr n d) (k:Fr m e) (q:n*e=m*d):n=m/\d=e:=by
 have h1:d ∣ e:=zoj h.low ⟨m,by rw [q,Int.mul_comm]⟩
 have h2:e ∣ d:=zoj k.low ⟨n,by rw [<- q,Int.mul_comm]⟩
 have e1:d=e:=Int.dvd_antisymm (Int.le_of_lt h.pos) (Int.le_of_lt k.pos) h1 h2
 subst e1
 have:=h.pos
 exact ⟨Int.eq_of_mul_eq_mul_right (by omega) q,rfl⟩
def rN (t b:Int):Int:=if b<0 then t / (-(dv t b)) else t / dv t b
def rD (t b:Int):Int:=if b<0 then b / (-(dv t b)) else b / dv t b
theorem ztr {t b:Int}:rN t b*(if b<0 then -(dv t b) else dv t b)=t:=by
 unfold rN
 split
 ·exact Int.ediv_mul_cancel (Int.neg_dvd.mpr (dv_l t b))
 ·exact Int.ediv_mul_cancel (dv_l t b)
theorem zts {t b:Int}:rD t b*(if b<0 then -(dv t b) else dv t b)=b:=by
 unfold rD
 split
 ·exact Int.ediv_mul_cancel (Int.neg_dvd.mpr (dv_r t b))
 ·exact Int.ediv_mul_cancel (dv_r t b)
theorem zok {t b:Int} (h:b≠0):rN t b*b=rD t b*t:=by
 have e1:=ztr (t:=t) (b:=b)
 have e2:=zts (t:=t) (b:=b)
 generalize (if b<0 then -(dv t b) else dv t b)=c at e1 e2
 calc rN t b*b=rN t b*(rD t b*c):=by rw [e2]
  _=rD t b*(rN t b*c):=by rw [<- Int.mul_assoc,<- Int.mul_assoc,Int.mul_comm (rN t b)]
  _=rD t b*t:=by rw [e1]
theorem ztt {t b:Int} (h:b≠0):Fr (rN t b) (rD t b):=by
 have hp:=dv_pos (a:=t) h
 refine ⟨?_,?_⟩
 ·unfold rD
  by_cases hb:b<0
  ·rw [if_pos hb,Int.ediv_neg]
   obtain ⟨k,hk⟩:=dv_r t b
   have:b / dv t b=k:=Int.ediv_eq_of_eq_mul_right (by omega) hk
   rw [this]
   rcases Int.lt_or_le k 0 with q | q
   ·omega
   ·have:=Int.mul_nonneg (Int.le_of_lt hp) q; omega
  ·rw [if_neg hb]
   obtain ⟨k,hk⟩:=dv_r t b
   have:b / dv t b=k:=Int.ediv_eq_of_eq_mul_right (by omega) hk
   rw [this]
   rcases Int.lt_or_le 0 k with q | q
   ·exact q
   ·have:=Int.mul_nonneg_of_nonpos_of_nonpos (a:=-(dv t b)) (b:=k) (by omega) q
    rw [Int.neg_mul] at this
    omega
 ·have q:=zsb (a:=t) (b:=b) (by omega)
  unfold rN rD
  by_cases hb:b<0
  ·rw [if_pos hb,if_pos hb,Int.ediv_neg,Int.ediv_neg,zoh,zoi]; exact q
  ·rw [if_neg hb,if_neg hb]; exact q
def Sz (n:Nat) (x:Int):Prop:=x.natAbs<2 ^ n
theorem Sz.mono {m n:Nat} {x:Int} (h:Sz m x) (hm:m<=n):Sz n x:=Nat.lt_of_lt_of_le h (Nat.pow_le_pow_right (by decide) hm)
theorem Sz.neg {n:Nat} {x:Int} (h:Sz n x):Sz n (-x):=by unfold Sz at *; omega
theorem Sz.le {n:Nat} {x y:Int} (h:Sz n y) (k:x.natAbs<=y.natAbs):Sz n x:=Nat.lt_of_le_of_lt k h
theorem Sz.dvd {n:Nat} {x y:Int} (h:Sz n y) (d:x ∣ y) (hy:y≠0):Sz n x:=by
 refine h.le ?_
 exact Nat.le_of_dvd (by omega) (Int.natAbs_dvd_natAbs.mpr d)
end Sw
namespace Sw
theorem Sz.lit {x:Int} (h:x.natAbs<1606938044258990275541962092341162602522202993782792835301376):Sz 5000 x:=by
 have e:(2:Nat) ^ 200 = 1606938044258990275541962092341162602522202993782792835301376:=by decide
 exact Nat.lt_of_lt_of_le (by rw [e]; exact h) (Nat.pow_le_pow_right (by decide) (by decide:200<=5000))
end Sw
namespace Sw
end Sw
namespace Sw
theorem Sz.r18 {x:Int} (h1:-100000000000000000000<x) (h2:x<100000000000000000000):Sz 70 x:=by
 have e:(2:Nat) ^ 70 = 1180591620717411303424:=by decide
 unfold Sz; rw [e]; omega
theorem Sz.one (n:Nat):Sz (n+1) 1:=by
 unfold Sz
 exact Nat.lt_of_lt_of_le (by decide:Int.natAbs 1<2 ^ 1) (Nat.pow_le_pow_right (by decide) (by omega))
end Sw
namespace L2
open PySem PySem.Spec PyProof.Rows
theorem zik {n:Nat} {x:Int} (h:Sw.Sz n x):Builtin.Int.intBits x<=n:=by
 unfold Builtin.Int.intBits
 split
 ·exact Nat.zero_le _
 ·rename_i hx
  have hx':x≠0:=by simpa using hx
  have:x.natAbs.log2<n:=(Nat.log2_lt (by omega)).mpr h
  omega
def CMulL (i j:Int):Prop:=Sw.Sz 5000 i/\Sw.Sz 5000 j
def CDivL (i j:Int):Prop:=0<j/\Sw.Sz 5000 j
def CDivS (i j:Int):Prop:=j≠0/\Sw.Sz 5000 j
theorem zkc {i j:Int} (h0:j≠0) (h:Sw.Sz 5000 j):Builtin.divisionGoesByPylong i j=false:=by
 refine PyProof.noPylong_of_log2 ?_
 have:j.natAbs.log2<5000:=(Nat.log2_lt (by omega)).mpr h
 omega
section
variable {X:Cx}
theorem zle:OpR X (binaryOp .Mult) (rI CMulL fun i j=>.int (i*j)):=opI fun _ _ _ _ _ _ _ hc q =>
 mul_int q (IntMulOk.of_bits (Nat.le_trans (zik hc.1) (by decide)) (Nat.le_trans (zik hc.2) (by decide)))
theorem zqd:OpR X (binaryOp .FloorDiv) (rI CDivL fun i j=>.int (i / j)):=opI fun i j _ _ _ _ _ hc q=>by
 have h1:(0:Int)<j:=hc.1
 exact floordiv_int (by omega) (by rw [Int.fdiv_eq_ediv_of_nonneg i (by omega)]; exact q) (.inl (zkc (by omega) hc.2))
theorem zlz:OpR X (binaryOp .FloorDiv) (rI CDivS fun i j=>.int (i.fdiv j)):=opI fun _ _ _ _ _ _ _ hc q=>floordiv_int hc.1 q (.inl (zkc hc.1 hc.2))
def clsV:V->Option Value
 | .ty n=>some (.type n)
 | .ref a=>some (.ref a)
 | _=>none
theorem zlf:CallR X (.builtin "isinstance") (fun xs H Q=>∃ x c t cv b,xs = [x,c]/\clsV c=some cv/\TyOf X.K H x t/\PySem.W.kitOne X.K t cv=some b/\Q (.bl b) H):=by
 intro pins s σ H xs us Q I r h
 obtain ⟨x,c,t,cv,b,rfl,hc,ty,e,q⟩:=h
 obtain ⟨u,v,rfl,rx,rc⟩:=Vals.two r
 have ec:v=cv:=by
  cases c with
  | ty n=>cases (show v=Value.type n from rc); exact Option.some.inj hc
  | ref a=>cases (show v=Value.ref a from rc); exact Option.some.inj hc
  | _=>cases hc
 subst ec
 exact znz I rx ty e fun tk=>⟨.bl b,H,I.tok _,rfl,q⟩
structure Def (P:Program) (w:World) (K:PySem.W.Frag) (mg:Str->Option Value) (base:Heap) (CX:CXT) (k:Nat) (x:Str) (ps:List Str) (sp:Sp):Prop where
 ex:∃ (f:Addr) (fd:FuncData),FnOk P w K mg base CX k f fd ps sp/\Binds K fd ps []/\PySem.W.keepIn K (.ref f)=true/\mg x=some (.ref f)
structure Src (K:PySem.W.Frag) (mg:Str->Option Value) (x:Str) (st:Stmt) (ps:List Str):Prop where
 ex:∃ (f:Addr) (fd:FuncData),Fun K x x st f fd/\Binds K fd ps []/\mg x=some (.ref f)
end
end L2
namespace L2
theorem zol {c:TT} {tb:TS} {D:Ends} {σ:St} {H:Hp} (Pv:St->Hp->Prop) (μ:St->Hp->Nat) (h0:Pv σ H)
    (hs:∀ σ H,Pv σ H->∃ b:Bool,(∀ Q:Bool->Hp->Prop,Q b H->c σ H Q)/\(b=true->tb { D with nx:=fun σ' H'=>Pv σ' H'/\μ σ' H' < μ σ H,ct:=fun σ' H'=>Pv σ' H'/\μ σ' H' < μ σ H,bk:=D.nx } σ H)/\(b=false->D.nx σ H)):znq c tb D σ H:=by
  refine ⟨fun m σ H=>m = μ σ H/\Pv σ H,⟨_,rfl,h0⟩,?_⟩
  rintro m σ H ⟨rfl,p⟩
  obtain ⟨b,hc,h1,h2⟩:=hs σ H p
  refine hc _ ?_
  cases b with
  | true=>exact ⟨_,fun σ' H' ⟨p',l⟩=>⟨_,l,rfl,p'⟩,h1 rfl⟩
  | false=>exact h2 rfl
end L2
namespace L2
open PySem PySem.Spec PyProof.Rows
theorem zha {X:Cx} {x:Str} {n:Int} {pos:Pos} (hg:Gl X x) (hm:∃ t,X.mg x=some (.int n t)) (hd:(x == ("__debug__" : Str))=false:=by decide):PE X (.Name x pos) (tC (.int n)):=by
 obtain ⟨t,hm⟩:=hm
 exact zee hg hm ⟨t,rfl⟩ hd
def spLaw (K:PySem.W.Frag):Sp:=fun vs H Q _=>∃ (a:Addr) (ns:List Int),vs = [.ref a]/\SqL K H a (ns.map V.int)/\ns.length<=63/\∀ H',Q (.bl true) H'
end L2
namespace L2
open PySem PySem.Spec PyProof.Rows
def spInt1 (g:Int->Int):Sp:=fun vs H Q _=>∃ a,vs = [.int a]/\Q (.int (g a)) H
def spInt2 (g:Int->Int->Int):Sp:=fun vs H Q _=>∃ a b,vs = [.int a,.int b]/\Q (.int (g a b)) H
def cellI (ns:List Int) (k:Int):Int:=(ns[k.toNat]?).getD 0
def zri (K:PySem.W.Frag):Sp:=fun vs H Q _=>∃ a ns k,vs = [.ref a,.int k]/\SqL K H a (ns.map V.int)/\0<=k/\Q (.int (cellI ns k)) H
theorem znb {ns:List Int} {k:Int} (h0:0<=k) (h:k<ns.length):atI (ns.map V.int) k=some (V.int (cellI ns k)):=by
 have e:((k.toNat:Nat):Int)=k:=by omega
 have hl:k.toNat<ns.length:=by omega
 have q:(ns.map V.int)[k.toNat]? = some (V.int (cellI ns k)):=by
  rw [List.getElem?_map]
  unfold cellI
  rw [List.getElem?_eq_getElem hl]
  rfl
 have:=zes q
 rw [e] at this
 exact this
theorem zlg {ns:List Int} {k:Int} (h0:0<=k) (h:¬ k<ns.length):cellI ns k = 0:=by
 unfold cellI
 rw [List.getElem?_eq_none (by omega)]
 rfl
def spWhole:Sp:=fun vs H Q _=>∃ n,vs = [.int n]/\Q (.bl true) H
end L2
namespace L2
theorem zad {t u:TS} {D:Ends} {σ:St} {H:Hp} (h:∀ R:St->Hp->Prop,(∀ σ H,u D σ H->R σ H)->t { D with nx:=R } σ H):tSeq t u D σ H:=h (u D) fun _ _ x=>x
end L2
namespace L2
open PySem PySem.Spec PyProof.Rows
theorem zom {K:PySem.W.Frag} {H:Hp} {a:Addr} {ns:List Int} {k:Int} {Q:VK} {E:XK} (hS:SqL K H a (ns.map V.int)) (h0:0<=k) (q:Q (.int (cellI ns k)) H):zri K [.ref a,.int k] H Q E:=⟨a,ns,k,rfl,hS,h0,q⟩
end L2
namespace L2
theorem cmulL_lit {a b:Int} (h1:a.natAbs<1606938044258990275541962092341162602522202993782792835301376) (h2:b.natAbs<1606938044258990275541962092341162602522202993782792835301376):CMulL a b:=⟨Sw.Sz.lit h1,Sw.Sz.lit h2⟩
theorem cdivL_lit {a b:Int} (h0:0<b) (h2:b.natAbs<1606938044258990275541962092341162602522202993782792835301376):CDivL a b:=⟨h0,Sw.Sz.lit h2⟩
end L2
namespace L2
open PySem
theorem line_lit {n:Nat} (h:n<=1000):n<=sizeLine:=Nat.le_trans h (by decide)
theorem line_lt {n:Nat} (h:n<1000):n<sizeLine:=Nat.lt_of_lt_of_le h (by decide)
end L2
namespace L2
open PySem
theorem zhi {K:PySem.W.Frag} {H:Hp} {p:Addr} {xs:List V} {i:Int} {v:V} {Q:VK} (hT:SqT K H p xs) (h:atI xs i=some v) (q:Q v H):rIxT K (.ref p) (.int i) H Q:=⟨p,xs,i,v,rfl,rfl,hT,h,q⟩
theorem zgr {K:PySem.W.Frag} {H:Hp} {p:Addr} {xs:List V} {i:Int} {v:V} {Q:VK} (hT:SqL K H p xs) (h:atI xs i=some v) (q:Q v H):rIxL K (.ref p) (.int i) H Q:=⟨p,xs,i,v,rfl,rfl,hT,h,q⟩
end L2
namespace L2
open PySem PySem.Spec PyProof.Rows
theorem zma {K:PySem.W.Frag}:PySem.W.kitOne K (.type "list") (.type "list")=some true:=by rfl
end L2
namespace L2
theorem iteN {c A B:Prop} [Decidable c] (hc:¬ c) (h:B):if c then A else B:=by rw [if_neg hc]; exact h
end L2
namespace L2
end L2
namespace L2
open PySem PySem.Spec PyProof.Rows
mutual
inductive Deep (K:PySem.W.Frag) (H:Hp):V->PyData->Prop
 | non:Deep K H .non .none
 | bl (b:Bool):Deep K H (.bl b) (.bool b)
 | int (i:Int):Deep K H (.int i) (.int i)
 | str (x:Str):Deep K H (.str x) (.str x)
 | tup {a:Addr} {xs:List V} {ds:List PyData}:SqT K H a xs->DeepAll K H xs ds->Deep K H (.ref a) (.tuple ds)
 | lst {a:Addr} {xs:List V} {ds:List PyData}:SqL K H a xs->DeepAll K H xs ds->Deep K H (.ref a) (.list ds)
inductive DeepAll (K:PySem.W.Frag) (H:Hp):List V->List PyData->Prop
 | nil:DeepAll K H [] []
 | cons {x:V} {d:PyData} {xs:List V} {ds:List PyData}:Deep K H x d->DeepAll K H xs ds->DeepAll K H (x :: xs) (d :: ds)
end
section
variable {X:Cx} {pins:List (Addr×Obj)} {σ:St} {H:Hp} {s:Shared}
mutual
theorem zdk (I:Inv X pins σ H s):∀ {x:V} {d:PyData} {u:Value},Deep X.K H x d->RelV x u->∃ as,Reads s.heap u d as
 | _,_,u,.non,r=>by cases (show u=Value.none from r); exact ⟨_,.none⟩
 | _,_,u,.bl b,r=>by cases (show u=Value.bool b from r); exact ⟨_,.bool b⟩
 | _,_,u,.int i,r=>by obtain ⟨t,rfl⟩:=(show ∃ t,u=Value.int i t from r); exact ⟨_,.int i t⟩
 | _,_,u,.str x,r=>by obtain ⟨t,rfl⟩:=(show ∃ t,u=Value.str x t from r); exact ⟨_,.str x t⟩
 | _,_,u,.tup (a:=a) q h,r=>by
  cases (show u=Value.ref a from r)
  obtain ⟨its,rv,⟨o,e,c,n,d⟩,hz⟩:=I.tuple q
  obtain ⟨as,ra⟩:=zej I h rv
  exact ⟨as,reads_tuple_at e c d (by simpa using ra)⟩
 | _,_,u,.lst (a:=a) q h,r=>by
  cases (show u=Value.ref a from r)
  obtain ⟨its,rv,⟨o,n,e,c,_,d⟩,hz⟩:=I.list q
  obtain ⟨as,ra⟩:=zej I h rv
  exact ⟨_,reads_list_at e c d (by simpa using ra)⟩
theorem zej (I:Inv X pins σ H s):∀ {xs:List V} {ds:List PyData} {us:List Value},DeepAll X.K H xs ds->Vals xs us->∃ as,ReadsAll s.heap us ds as
 | _,_,_,.nil,.nil=>⟨_,.nil⟩
 | _,_,_,.cons d h,.cons r t=>by
  obtain ⟨as,q⟩:=zdk I d r
  obtain ⟨bs,p⟩:=zej I h t
  exact ⟨_,.cons q p⟩
end
end
section
variable {X:Cx}
def rEqD (K:PySem.W.Frag):R2:=fun x y H Q=>∃ d e,Deep K H x d/\Deep K H y e/\PySem.SeqAt.shaped d=true/\PySem.SeqAt.shaped e=true/\Q (.bl (PyData.eqv d e)) H
def rNeD (K:PySem.W.Frag):R2:=fun x y H Q=>∃ d e,Deep K H x d/\Deep K H y e/\PySem.SeqAt.shaped d=true/\PySem.SeqAt.shaped e=true/\Q (.bl (!PyData.eqv d e)) H
theorem ztu (hu:X.A.units+64<cLine):OpR X (compareOp .Eq) (rEqD X.K):=by
 intro pins s σ H x y v u Q I rx ry h
 obtain ⟨d,e,hd,he,sd,se,q⟩:=h
 obtain ⟨as,ra⟩:=zdk I hd rx
 obtain ⟨bs,rb⟩:=zdk I he ry
 exact eq_dataH ra rb sd se hu ⟨.bl _,H,I,rfl,q⟩
theorem ztv (hu:X.A.units+64<cLine):OpR X (compareOp .NotEq) (rNeD X.K):=by
 intro pins s σ H x y v u Q I rx ry h
 obtain ⟨d,e,hd,he,sd,se,q⟩:=h
 obtain ⟨as,ra⟩:=zdk I hd rx
 obtain ⟨bs,rb⟩:=zdk I he ry
 exact ne_dataH ra rb sd se hu ⟨.bl _,H,I,rfl,q⟩
end
theorem zak {H:Hp} {a:Addr} {o:HO} (h:H a=none):Same H (upd H a o):=fun b u e=>by rw [zah (zan e h)]; exact e
end L2
namespace L2
open PySem PySem.Spec PyProof.Rows
def Ite (K:PySem.W.Frag) (a:Addr):It :=
  ⟨fun i H=>∃ xs x,SqL K H a xs/\xs[i]? = some x,
   fun i H y H'=>∃ p x,y = .ref p/\H p=none/\(∀ xs,SqL K H a xs->xs[i]? = some x)/\H'=upd H p (.tup [.int i,x]),
   fun i H=>∃ xs,SqL K H a xs/\xs.length<=i⟩
section
variable {X:Cx}
def iEnum (K:PySem.W.Frag) (ta:TA):TI:=fun σ H R=>ta σ H fun vs H1=>∃ a,vs = [.ref a]/\(∃ xs,SqL K H1 a xs)/\R (Ite K a) H1
end
section
variable {prog:Program} {w:World} {A:Around} {R:Result->Shared->Prop} {s:Shared}
theorem zff {elt target iter:Expr} {ifs:List Expr} {scope:Scope} {pos:Pos} {it acc:Value} {env:Env} (I:Nat->Shared->Prop)
    (turn:∀ n s,I n s->wpAny (model prog w) A (pyNext it) (fun r s₁=>match r with
      | none=>R (.ok .next) s₁
      | some v=>wpAny (model prog w) A (letOwnedTupleGo target it v) (fun _ s₁'=>wpAny (model prog w) A (assign target env v) (fun _ s₂ =>
          wpAny (model prog w) A (forIn ifs true fun c r=>if r=true then do let ok <- isTrue c env (eval c env); pure (ForInStep.yield ok) else pure (ForInStep.yield r)) (fun ok s₃ =>
            if ok=true then wpAny (model prog w) A (eval elt env) (fun x s₄ =>
              wpAny (model prog w) A (call (.builtin "list.append") [acc,x]) (fun _ s₅=>∃ m,m<n/\I m s₅) (notedBy (model prog w) A env fun e s'=>R (.error e) s') s₄) (notedBy (model prog w) A env fun e s'=>R (.error e) s') s₃
            else ∃ m,m<n/\I m s₃) (notedBy (model prog w) A env fun e s'=>R (.error e) s') s₂) (notedBy (model prog w) A env fun e s'=>R (.error e) s') s₁') (notedBy (model prog w) A env fun e s'=>R (.error e) s') s₁) (notedBy (model prog w) A env fun e s'=>R (.error e) s') s)
    (n:Nat) (h:I n s) :
    codeAny (model prog w) A (.compLoop (.ListComp elt [⟨target,iter,ifs,0⟩] scope pos) 0 it acc env) R s:=by
  refine codeAny_loop rfl I (fun n s hI=>?_) n h
  show wpAny _ A ((compTurn (.ListComp elt [⟨target,iter,ifs,0⟩] scope pos) 0 it acc env).onRaise (fun x=>do noteFrame x env; theTreesLotGoes x)) _ _ s
  refine wpAny_noted ?_
  rw [compTurn_list]
  refine wpAny_bind (wpAny_standAt (wpAny_bind (wpAny_mono (turn n s hI) (fun r s₁ h₁=>?_) fun _ _ h'=>h')))
  cases r with
  | none=>exact wpAny_pure h₁
  | some v =>
    refine wpAny_bind (wpAny_mono h₁ (fun _ s₁' h₁'=>?_) fun _ _ h'=>h')
    refine wpAny_bind (wpAny_mono h₁' (fun _ s₂ h₂=>wpAny_bind (wpAny_mono h₂ (fun ok s₃ h₃=>?_) fun _ _ h'=>h')) fun _ _ h'=>h')
    cases ok with
    | false=>exact wpAny_pure ⟨rfl,h₃⟩
    | true =>
      exact wpAny_bind (wpAny_bind (wpAny_mono h₃ (fun x s₄ h₄=>wpAny_bind (wpAny_mono h₄ (fun _ s₅ h₅=>wpAny_pure (wpAny_pure ⟨rfl,h₅⟩)) fun _ _ h'=>h')) fun _ _ h'=>h'))
end
def zea (X:Cx) (scope:Scope) (cl:List (Str×Addr)) (N:List Str) (fp:List Addr) (s:Shared) (H:Hp):Cx :=
 { X with N:=N,s₀:=s,H₀:=H,env:=compEnvC scope cl s.heap.objs.size X.env,outer:=X.stack,stack:=X.stack,ex:=fp,fn:=fun _=>false,pn:=[],xe:=fun _ _=>False }
def FrOk (X:Cx) (sc:Scope):List (Str×Nat)->Prop
 | []=>True
 | p :: r=>(X.N[p.2]? = some p.1/\sc.names.lookup p.1=some .cell/\X.env.kindOf p.1=some .cell)/\FrOk X sc r
theorem FrOk.mem {X:Cx} {sc:Scope}:∀ {l:List (Str×Nat)},FrOk X sc l->∀ p∈l,X.N[p.2]? = some p.1/\sc.names.lookup p.1=some .cell/\X.env.kindOf p.1=some .cell
 | [],_,p,hp=>nomatch hp
 | q :: r,h,p,hp=>by
  rcases List.mem_cons.mp hp with e | hp
  ·rw [e]; exact h.1
  ·exact FrOk.mem h.2 p hp
def PIfs (X:Cx) (ifs:List Expr) (t:TT):Prop :=
 ∀ (pins:List (Addr×Obj)) (s:Shared) (σ:St) (H:Hp) (Q:Bool->Hp->Prop),Inv X pins σ H s->t σ H Q ->
  wpAny (model X.prog X.w) X.A (forIn ifs true fun c r=>if r=true then do let ok <- isTrue c X.env (eval c X.env); pure (ForInStep.yield ok) else pure (ForInStep.yield r)) (TP X pins σ Q) X.xe s
def tYes:TT:=fun _ H Q=>Q true H
theorem zmb {X:Cx}:PIfs X [] tYes:=fun _ _ _ H _ I h=>wpAny_tests_nil ⟨H,I,h⟩
theorem zja {X:Cx} {c:Expr} {t:TT} (hc:PT X c t):PIfs X [c] t:=fun pins s σ H Q I h=>wpAny_tests_one (hc pins s σ H Q I h)
def tComp (nt:Nat) (fr:List (Str×Nat)) (wi:TI) (g:TG) (tc:TT) (te:TE):TE:=fun σ H Q=>wi σ H fun J H1=>∀ D,H1 D=none->∃ W:Nat->Nat->St->Hp->Prop,
 (∃ m,W 0 m (List.replicate nt none++fr.map fun p=>(σ[p.2]?).join) (upd H1 D (.lst [])))/\∀ i m τ H',W i m τ H' ->
  (J.stop i H'/\Q (.ref D) H')\/(J.go i H'/\∃ N:St->Hp->Prop,(∀ τ' H'',N τ' H''->∃ m',m' < m/\W (i+1) m' τ' H'') /\
   ∀ x H2,J.yld i H' x H2->g x τ H2 fun τ2 H3=>tc τ2 H3 fun b H4=>if b=true then te τ2 H4 fun y H5=>∃ ys,H5 D=some (.lst ys)/\ys.length<sizeLine/\N τ2 (upd H5 D (.lst (ys++[y]))) else N τ2 H4)
section
variable {X:Cx}
theorem zqe {scope:Scope} {cl:List (Str×Addr)} {ts:List Str} {fr:List (Str×Nat)} {fp:List Addr} {pins:List (Addr×Obj)} {σ:St} {H:Hp} {s:Shared} {h':Heap} {m:Str->Option Value} {t':Nat} (I:Inv X pins σ H s)
    (hkind:scope.kind = .function) (hcl:∀ x c,cl.lookup x=some c->X.env.cells.lookup x=some c)
    (hhas:∀ x,((relabel scope X.env).names.lookup x=some .cell\/(relabel scope X.env).names.lookup x=some .free)->∃ c,cl.lookup x=some c) (hfr:FrOk X (relabel scope X.env) fr)
    (hfp:∀ b∈fp,FpOk X pins H b/\b<s.heap.objs.size) (hn:h'.Ns s.heap.objs.size m) (hk:∀ b o,s.heap.get? b=some o->h'.get? b=some o) :
    Inv (zea X scope cl (ts++fr.map (·.1)) fp s H) [] (List.replicate ts.length none++fr.map fun p=>(σ[p.2]?).join) H { s with heap:=h',toks:=t' }:=by
  have cellK:∀ c v,s.heap.IsCell c v->h'.IsCell c v:=fun c v ⟨o,ho,hd⟩=>⟨o,hk c o ho,hd⟩
  refine ⟨⟨I.ok.mod,hkind,I.ok.glob,I.ok.blt,Nat.le_refl _,fun x y c h1 h2=>I.ok.inj x y c (hcl x c h1) (hcl y c h2),hhas,fun x c h=>(by cases h),I.ok.hd,I.ok.frames,.inl rfl,fun b hb=>?_,I.bs,Nat.le_trans I.ok.bsz I.sz,fun b o e hb=>?_,fun b hb z=>?_,I.stack,I.stkFree⟩,
    rfl,I.bare,Un.kept hk,⟨m,hn,fun i x v e1 e2 e3=>?_⟩,fun x c e=>?_,I.hok.fresh (Nat.le_refl _),fun x c e=>I.freeC x c (hcl x c e),fun p hp=>absurd (show p∈([]:List (Addr×Obj)) from hp) (by simp),I.hok.kept hk,?_⟩
  · obtain ⟨f,lt⟩:=hfp b hb
    exact ⟨Nat.ne_of_lt lt,fun x c e=>f.2.2.2.2.1 x c (hcl x c e)⟩
  · obtain ⟨f,lt⟩:=hfp b hb
    rcases f.2.2.2.1 with z | z
    · exact I.ok.noex b o e z
    · exact absurd (Nat.lt_of_lt_of_le (Heap.lt_size e) (Nat.le_trans I.ok.bsz z)) (Nat.lt_irrefl _)
  · obtain ⟨f,lt⟩:=hfp b hb
    rcases List.mem_cons.mp (I.stkSub b z) with y | y
    · exact f.2.1 y
    · exact f.2.2.1 y
  · have hlen:(List.replicate ts.length (none:Option V)).length=ts.length:=by simp
    by_cases hi:i<ts.length
    · rw [List.getElem?_append_left (by rw [hlen]; exact hi),List.getElem?_replicate,if_pos hi] at e2
      cases e2
    · rw [List.getElem?_append_right (by rw [hlen]; omega),hlen,List.getElem?_map] at e2
      have e1':(ts++fr.map (·.1))[i]? = some x:=e1
      rw [List.getElem?_append_right (by omega),List.getElem?_map] at e1'
      cases ep:fr[i-ts.length]? with
      | none=>rw [ep] at e2; cases e2
      | some p =>
        rw [ep] at e1' e2
        have ex:p.1=x:=Option.some.inj e1'
        have ev:(σ[p.2]?).join=some v:=Option.some.inj e2
        obtain ⟨a1,a2,a3⟩:=hfr.mem p (List.mem_of_getElem? ep)
        have ev':σ[p.2]? = some (some v):=by
          cases q:σ[p.2]? with
          | none=>rw [q] at ev; cases ev
          | some o=>rw [q] at ev; cases o with
            | none=>cases ev
            | some v'=>cases ev; rfl
        obtain ⟨m',hn',hl'⟩:=I.loc
        obtain ⟨u,ru,lk⟩:=hl' p.2 p.1 v a1 ev' (.inr (.inl a3))
        subst ex
        refine ⟨u,ru,?_⟩
        rcases lk with ⟨z,_⟩ | ⟨_,c,ec,z⟩
        · rw [z] at a3; cases a3
        · obtain ⟨c',ec'⟩:=hhas p.1 (.inl a2)
          have ecc:c'=c:=Option.some.inj ((hcl _ _ ec').symm.trans ec)
          exact .inr ⟨.inl a2,c',ec',(by rw [ecc]; exact cellK _ _ z)⟩
  · obtain ⟨v,z⟩:=I.cell x c (hcl x c e)
    exact ⟨v,cellK _ _ z⟩
  · show _=(ts++fr.map (·.1)).length
    simp
theorem zsc {elt target iter:Expr} {ifs:List Expr} {scope:Scope} {pos:Pos} {cl:List (Str×Addr)} {ts:List Str} {fr:List (Str×Nat)} {wi:TI} {g:TG} {tc:TT} {te:TE} (hcalm:X.calm=true)
    (hclos:closureFor scope X.env=pure cl) (hcell:∀ y∈scope.names,y.2≠.cell) (hkind:scope.kind = .function) (hnames:∀ y∈scope.names,y.2 = .local->scope.names.lookup y.1=some .local)
    (hcl:∀ x c,cl.lookup x=some c->X.env.cells.lookup x=some c)
    (hhas:∀ x,((relabel scope X.env).names.lookup x=some .cell\/(relabel scope X.env).names.lookup x=some .free)->∃ c,cl.lookup x=some c) (hfr:FrOk X (relabel scope X.env) fr)
    (hi:PI X target iter wi) (hg:∀ fp s H,PG (zea X scope cl (ts++fr.map (·.1)) fp s H) target g) (hc:∀ fp s H,PIfs (zea X scope cl (ts++fr.map (·.1)) fp s H) ifs tc)
    (he:∀ fp s H,PE (zea X scope cl (ts++fr.map (·.1)) fp s H) elt te) (hs:∀ x,foldedSetIterable iter X.env x=pure x:=by intro _; rfl) :
    PE X (.ListComp elt [⟨target,iter,ifs,0⟩] scope pos) (tComp ts.length fr wi g tc te):=by
  intro pins s σ H Q I h
  rw [eval_ListComp]
  refine wpAny_comprehension_free (use:=none) rfl hs hclos hkind hnames (thn (hi pins s σ H _ I h) fun xv s1 h1=>thn h1 fun itv s2 h2=>?_)
  obtain ⟨it,fp,tn,J,H2,rfl,I2,T,st2,f2,hR⟩:=h2
  have D0:H2 s2.heap.objs.size=none:=I2.hok.fresh (Nat.le_refl _)
  obtain ⟨W,⟨m0,w0⟩,turn⟩:=hR s2.heap.objs.size D0
  refine wpAny_newObj_type (wpAny_newFunctionEnv hcell (by intro y hy; simp at hy) (fun h₁ hns₁ hsb₁=>?_) hkind)
  dsimp only at hns₁ hsb₁ ⊢
  have I3:Inv X pins σ (upd H2 s2.heap.objs.size (.lst [])) { s2 with heap:=s2.heap.push { cls:=.type "list", dict:=none,data:=.seq ([]:List Value).toArray } } :=
    I2.laid (t':=s2.toks) (fun _ _ q=>Heap.get?_push_of_some _ q) (Nat.le_refl _) ⟨Nat.zero_le _,[],0,.nil,Heap.get?_push_size _ rfl⟩
  have kp3:∀ b o,s2.heap.get? b=some o->(s2.heap.push { cls:=.type "list", dict:=none,data:=.seq ([]:List Value).toArray }).get? b=some o:=fun b o q=>Heap.get?_push_of_some _ q
  have sz3:(s2.heap.push { cls:=.type "list", dict:=none,data:=.seq ([]:List Value).toArray }).objs.size=s2.heap.objs.size+1:=Heap.size_push ..
  generalize s2.heap.push { cls:=.type "list", dict:=none,data:=.seq ([]:List Value).toArray } = hp3 at hns₁ hsb₁ I3 kp3 sz3 ⊢
  have kp:∀ b o,hp3.get? b=some o->h₁.get? b=some o:=fun b o e=>hsb₁.extBut b o (Nat.ne_of_lt (Heap.lt_size e)) (Heap.get?_push_of_some _ e)
  have flt:∀ b∈fp,b<s2.heap.objs.size:=fun b hb=>by
    obtain ⟨o,e,_⟩:=T.obj _ _ st2 b hb
    exact Heap.lt_size e
  have fr3:∀ b∈fp,(upd H2 s2.heap.objs.size (.lst [])) b=none:=fun b hb=>by rw [zah (Nat.ne_of_lt (flt b hb))]; exact (f2 b hb).1
  have f3:∀ b∈fp,FpOk X pins (upd H2 s2.heap.objs.size (.lst [])) b/\b<hp3.objs.size:=fun b hb=>⟨⟨fr3 b hb,(f2 b hb).2⟩,by rw [sz3]; exact Nat.lt_succ_of_lt (flt b hb)⟩
  have I4:=zqe (ts:=ts) (t':=s2.toks+([]:List (Str×Value)).length) I3 hkind hcl hhas hfr f3 hns₁ kp
  have st4:tn 0 h₁:=T.keep _ _ _ st2 fun b hb o e=>kp b o (kp3 b o e)
  have loop:codeAny (model X.prog X.w) X.A (.compLoop (.ListComp elt [⟨target,iter,ifs,0⟩] scope pos) 0 (.ref it) (.ref s2.heap.objs.size) (compEnvC scope cl hp3.objs.size X.env))
      (compPost (model X.prog X.w) X.A X.xe none (EP X pins σ Q) (.ref s2.heap.objs.size) hp3.objs.size) { s2 with heap:=h₁,toks:=s2.toks+([]:List (Str×Value)).length }:=by
    refine zff (fun n s'=>∃ i τ H',Inv (zea X scope cl (ts++fr.map (·.1)) fp { s2 with heap:=hp3 } (upd H2 s2.heap.objs.size (.lst []))) [] τ H' s'/\tn i s'.heap/\(∀ b∈fp,H' b=none)/\W i n τ H') ?_ m0 ⟨0,_,_,I4,st4,fr3,w0⟩
    rintro n s5 ⟨i,τ,H5,I5,st5,fr5,w5⟩
    have stat:∀ {H':Hp},(∀ b∈fp,H' b=none)->∀ b∈fp,FpOk (zea X scope cl (ts++fr.map (·.1)) fp { s2 with heap:=hp3 } (upd H2 s2.heap.objs.size (.lst []))) [] H' b :=
      fun hn b hb=>⟨hn b hb,(I5.ok.exf b hb).1,I5.ok.exfs b hb,.inl hb,(I5.ok.exf b hb).2,fun p hp=>absurd (show p∈([]:List (Addr×Obj)) from hp) (by simp)⟩
    rcases turn i n τ H5 w5 with ⟨stop,qn⟩ | ⟨go,Nn,hN,step⟩
    · refine thn (T.done (zea X scope cl (ts++fr.map (·.1)) fp { s2 with heap:=hp3 } (upd H2 s2.heap.objs.size (.lst []))) rfl rfl rfl hcalm i [] s5 τ H5 _ I5 (stat fr5) st5 stop) fun r s6 ⟨hr,I6⟩=>?_
      subst hr
      obtain ⟨m,hn,_⟩:=I6.loc
      refine ⟨m,hn,fun h' hs'=>⟨.ref s2.heap.objs.size,H5,?_,rfl,qn⟩⟩
      have neC:∀ b o,hp3.get? b=some o->b≠hp3.objs.size:=fun b o e=>Nat.ne_of_lt (Heap.lt_size e)
      have hs'':Heap.SameBut hp3.objs.size s6.heap h':=hs'
      refine I3.call' (s':={ s6 with heap:=h' }) (ch:=fp) I6.os ⟨fun b o e n hb hx=>?_,fun b o e n hb hx=>?_,I6.base.free,fun b o e hx=>?_,I6.base.tups,I6.base.frzs,I6.base.tbls⟩ (fun b ob e=>?_) I6.bare (fun b hb=>?_)
      · exact (hs''.2 b (neC b o e)).trans (I6.base.keep b o e n hb hx)
      · obtain ⟨sl,q⟩:=I6.base.slot b o e n hb hx
        exact ⟨sl,(hs''.2 b (neC b o e)).trans q⟩
      · obtain ⟨o',q⟩:=I6.base.there b o e hx
        exact ⟨o',(hs''.2 b (neC b o e)).trans q⟩
      · refine (I6.hok b ob e).stay (fun c v hc q=>(hs''.2 c ?_).trans q) (fun _ q=>q) fun _ _ q=>q
        intro z
        have fz:H5 hp3.objs.size=none:=I6.free
        rcases hc with y | y
        · rw [<- y,z,fz] at e; cases e
        · rw [z,fz] at y; cases y
      · exact ⟨(f2 b hb).2.2.2.1,(f2 b hb).2.1,(f2 b hb).2.2.2.2.1,(f2 b hb).2.2.2.2.2⟩
    · refine thn (T.item (zea X scope cl (ts++fr.map (·.1)) fp { s2 with heap:=hp3 } (upd H2 s2.heap.objs.size (.lst []))) rfl rfl rfl hcalm i [] s5 τ H5 _ I5 (stat fr5) st5 go) fun r s6 ⟨u,hr,h6⟩=>?_
      subst hr
      refine thn h6 fun _ s7 ⟨x,H7,I7,r7,y7,st7,fr7⟩=>?_
      have I7':=I7.pinned (stat fr7) (T.obj _ _ st7)
      refine wpAny_mono (hg fp _ _ _ s7 τ H7 x u _ I7' r7 (step x H7 y7)) (fun _ s8 ⟨τ8,H8,I8,q8⟩=>?_) fun _ _ z=>False.elim z
      have again:∀ {τ9:St} {H9:Hp} {s9:Shared},Inv (zea X scope cl (ts++fr.map (·.1)) fp { s2 with heap:=hp3 } (upd H2 s2.heap.objs.size (.lst []))) ([]++zii fp s7.heap) τ9 H9 s9->Nn τ9 H9 ->
          ∃ m,m<n/\∃ i τ H',Inv (zea X scope cl (ts++fr.map (·.1)) fp { s2 with heap:=hp3 } (upd H2 s2.heap.objs.size (.lst []))) [] τ H' s9/\tn i s9.heap/\(∀ b∈fp,H' b=none)/\W i m τ H':=fun {τ9 H9 s9} I9 n9=>by
        obtain ⟨m',hm,w9⟩:=hN τ9 H9 n9
        refine ⟨m',hm,i+1,τ9,H9,I9.unpinned,T.keep _ _ _ st7 fun b hb o e=>(I9.pin (b,o) (List.mem_append_right _ (List.mem_append_right _ (zdq hb e)))).1,fun b hb=>?_,w9⟩
        obtain ⟨o,e,d⟩:=T.obj _ _ st7 b hb
        exact (I9.pin (b,o) (List.mem_append_right _ (List.mem_append_right _ (zdq hb e)))).2.1
      refine wpAny_mono (hc fp _ _ _ s8 τ8 H8 _ I8 q8) (fun ok s9 ⟨H9,I9,q9⟩=>?_) fun _ _ z=>False.elim z
      cases ok with
      | false=>exact again I9 q9
      | true =>
        refine wpAny_mono (he fp _ _ _ s9 τ8 H9 _ I9 q9) (fun y s10 ⟨v,H10,I10,rv,ys,hD,hl,qN⟩=>?_) fun _ _ z=>False.elim z
        refine wpAny_mono (zcx (X:=zea X scope cl (ts++fr.map (·.1)) fp { s2 with heap:=hp3 } (upd H2 s2.heap.objs.size (.lst []))) _ s10 τ8 H10 (.ref s2.heap.objs.size) [v] (.ref s2.heap.objs.size) [y] (fun _ H=>Nn τ8 H) I10 rfl (.cons rv .nil) ⟨_,ys,v,rfl,rfl,hD,hl,qN⟩) (fun _ s11 ⟨_,H11,I11,_,q11⟩=>again I11 q11) fun _ _ z=>False.elim z
  exact codeAny_compStart_list loop (T.self X.A 0 _ _ _ st4 loop)
end
end L2
namespace L2
open PySem PySem.Spec PyProof.Rows
section
variable {X:Cx} {tg:Expr}
theorem zav (K:PySem.W.Frag) (h:X.K=K):IxR X (rIxL K):=h ▸ zrz
theorem zge (K:PySem.W.Frag) (h:X.K=K):IxR X (rIxT K):=h ▸ ztk
theorem zfr (K:PySem.W.Frag) (h:X.K=K):SlR X (rSlL K):=h ▸ zsa
def rLen (K:PySem.W.Frag):List V->Hp->VK->Prop:=fun xs H Q=>∃ p ys,xs = [.ref p]/\(SqL K H p ys\/SqT K H p ys)/\Q (.int ys.length) H
theorem zdv (K:PySem.W.Frag) (h:X.K=K):CallR X (.builtin "len") (rLen K):=h ▸ zjz
def rInst (K:PySem.W.Frag):List V->Hp->VK->Prop:=fun xs H Q=>∃ x c t cv b,xs = [x,c]/\clsV c=some cv/\TyOf K H x t/\PySem.W.kitOne K t cv=some b/\Q (.bl b) H
theorem zgs (K:PySem.W.Frag) (h:X.K=K):CallR X (.builtin "isinstance") (rInst K):=h ▸ zlf
theorem zlh (K:PySem.W.Frag) (h:X.K=K) {es:List Expr} {k:Nat} {pos:Pos} {t:TGs} {n:Nat} (hc:X.calm=true) (hq:PGs X es t)
    (hn:(assignEach es X.env).length=n:=by rfl) (hst:(assignEach es X.env).findIdx? (·.1)=none:=by rfl):PG X (.Tuple es k pos) (gTup K n t):=h ▸ ztj hc hq hn hst
theorem zqf (K:PySem.W.Frag) (h:X.K=K) {l:Expr} {tl:TE} (hl:PE X l tl):PI X tg l (iList K tl):=h ▸ zru hl
end
def ClOk (env:Env):List (Str×Addr)->Prop
 | []=>True
 | p :: r=>env.cells.lookup p.1=some p.2/\ClOk env r
theorem ClOk.get {env:Env}:∀ {cl:List (Str×Addr)},ClOk env cl->∀ x c,cl.lookup x=some c->env.cells.lookup x=some c
 | [],_,x,c,e=>by cases e
 | p :: r,h,x,c,e=>by
  obtain ⟨k,a⟩:=p
  rw [List.lookup_cons] at e
  by_cases q:x=k
  ·subst q
   rw [beq_self_eq_true] at e
   cases e
   exact h.1
  ·rw [beq_eq_false_iff_ne.mpr q] at e
   exact ClOk.get h.2 x c e
def clAll (ns:List (Str×NameKind)) (cl:List (Str×Addr)):Bool:=ns.all fun y=>match y.2 with
 | .cell=>(cl.lookup y.1).isSome
 | .free=>(cl.lookup y.1).isSome
 | _=>true
theorem zon {ns:List (Str×NameKind)} {cl:List (Str×Addr)} (h:clAll ns cl=true) (x:Str) (q:ns.lookup x=some .cell\/ns.lookup x=some .free):∃ c,cl.lookup x=some c:=by
 unfold clAll at h
 rw [List.all_eq_true] at h
 rcases q with q | q
 ·have:=h _ (PySem.mem_of_lookup q)
  exact Option.isSome_iff_exists.mp this
 ·have:=h _ (PySem.mem_of_lookup q)
  exact Option.isSome_iff_exists.mp this
theorem pe_lc {X:Cx} {elt target iter:Expr} {ifs:List Expr} {scope:Scope} {pos:Pos} {cl:List (Str×Addr)} (ts:List Str) (fr:List (Str×Nat)) {wi:TI} {g:TG} {tc:TT} {te:TE} (hcalm:X.calm=true)
    (hclos:closureFor scope X.env=pure cl) (hcell:∀ y∈scope.names,y.2≠.cell) (hkind:scope.kind = .function) (hnames:∀ y∈scope.names,y.2 = .local->scope.names.lookup y.1=some .local)
    (hcl:ClOk X.env cl) (hhas:clAll (relabel scope X.env).names cl=true) (hfr:FrOk X (relabel scope X.env) fr)
    (hi:PI X target iter wi) (hg:∀ fp s H,PG (zea X scope cl (ts++fr.map (·.1)) fp s H) target g) (hc:∀ fp s H,PIfs (zea X scope cl (ts++fr.map (·.1)) fp s H) ifs tc)
    (he:∀ fp s H,PE (zea X scope cl (ts++fr.map (·.1)) fp s H) elt te) (hs:∀ x,foldedSetIterable iter X.env x=pure x:=by intro _; rfl) :
    PE X (.ListComp elt [⟨target,iter,ifs,0⟩] scope pos) (tComp ts.length fr wi g tc te) :=
  zsc hcalm hclos hcell hkind hnames hcl.get (fun x q=>zon hhas x q) hfr hi hg hc he hs
end L2
namespace L2
open PySem PySem.Spec PyProof.Rows
def rAll (K:PySem.W.Frag):List V->Hp->VK->Prop:=fun xs H Q=>∃ (p:Addr) (bs:List Bool),xs = [.ref p]/\SqL K H p (bs.map V.bl)/\Q (.bl (bs.all id)) H
theorem zmc {bs:List Bool}:∀ {us:List Value},Vals (bs.map V.bl) us->us=bs.map Value.bool:=by
 induction bs with
 | nil=>intro us r; cases r; rfl
 | cons b r ih =>
  intro us h
  cases h with
  | cons h1 h2=>rw [show _=Value.bool b from h1,ih h2]; rfl
theorem zoo {bs:List Bool} (f:Nat->Bool) (h:∀ i,i<bs.length->f i=bs.getD i false):(List.range bs.length).all f=bs.all id:=by
 rw [Bool.eq_iff_iff,List.all_eq_true,List.all_eq_true]
 constructor
 ·intro q b hb
  obtain ⟨i,hi,e⟩:=List.getElem_of_mem hb
  have:=q i (List.mem_range.mpr hi)
  rw [h i hi] at this
  rw [<- e]
  simpa [List.getD_eq_getElem?_getD,hi] using this
 ·intro q i hi
  have hi:=List.mem_range.mp hi
  rw [h i hi]
  have:=q bs[i] (List.getElem_mem hi)
  simpa [List.getD_eq_getElem?_getD,hi] using this
section
variable {X:Cx}
theorem znc {pins:List (Addr×Obj)} {s:Shared} {σ:St} {H:Hp} {p:Addr} {bs:List Bool} {Q:Value->Shared->Prop} (I:Inv X pins σ H s) (hc:X.calm=true) (hq:SqL X.K H p (bs.map V.bl))
    (h:∀ s₂:Shared,(∀ (h':Heap) (tk:Nat),(∀ b o,b ∉ [s.heap.objs.size]->s₂.heap.get? b=some o->h'.get? b=some o)->Inv X pins σ H { s₂ with heap:=h',toks:=tk }) ->
      (s₂.heap.IsListIter s.heap.objs.size p 0/\s₂.heap.IsList p (bs.map Value.bool).toArray)->p≠s.heap.objs.size->Q (.ref s.heap.objs.size) s₂) (E:Value->Shared->Prop) :
    wpAny (model X.prog X.w) X.A.in1 (pyIter (.ref p)) Q E s:=by
  obtain ⟨its,rv,hp,hz⟩:=I.list hq
  rw [zmc rv] at hp
  have hl:=hp.isList
  have hlt:p<s.heap.objs.size:=by obtain ⟨_,e,_⟩:=id hl; exact Heap.lt_size e
  refine wpAny_pyIter_list hl (h _ (fun h' tk hk=>I.kept (t':=tk) fun b o e=>?_) ⟨⟨_,Heap.get?_push_size _ rfl,rfl,rfl⟩,hl.push _⟩ (Nat.ne_of_lt hlt))
  exact hk b o (by simp [Nat.ne_of_lt (Heap.lt_size e)]) (Heap.get?_push_of_some _ e)
theorem zli {A:Around} {bs:List Bool}:TruthOf X.prog X.w A (fun i v=>(bs.map Value.bool).toArray[i]? = some v) (fun i=>bs.getD i false):=by
 intro i v s Q E hP hQ
 have e:bs[i]?.map Value.bool=some v:=by simpa using hP
 cases q:bs[i]? with
 | none=>rw [q] at e; cases e
 | some b =>
  rw [q] at e
  cases e
  dsimp only at hQ
  rw [List.getD_eq_getElem?_getD,q] at hQ
  exact wpAny_truthy_bool hQ
theorem zop (K:PySem.W.Frag) (h:X.K=K) (hc:X.calm=true):CallR X (.builtin "all") (rAll K):=by
 subst h
 intro pins s σ H xs us Q I r h
 obtain ⟨p,bs,rfl,hq,q⟩:=h
 obtain ⟨u,rfl,ru⟩:=vals1 r
 cases (show u=Value.ref p from ru)
 refine call_all_walk (znc I hc hq (fun s₂ J st hne=>⟨_,_,_,_,_,_,_,rfl,Walks.list (A:=X.A.in1) (I.ok.hd hc) _ p hne _,st,zli,fun h' tk hk=>⟨.bl _,H,J h' tk hk,?_,q⟩⟩) _)
 show Value.bool _=Value.bool _
 congr 1
 rw [List.size_toArray,List.length_map]
 exact zoo _ fun i hi=>rfl
end
end L2
namespace L2
open PySem PySem.Spec PyProof.Rows
def CompG (J:It) (g:TG) (tc:TT) (te:TE) (D:Addr) (τ:St) (H:Hp) (Q:VK):Prop :=
 ∃ W:Nat->Nat->St->Hp->Prop,(∃ m,W 0 m τ H)/\∀ i m τ H',W i m τ H' ->
  (J.stop i H'/\Q (.ref D) H')\/(J.go i H'/\∃ N:St->Hp->Prop,(∀ τ' H'',N τ' H''->∃ m',m' < m/\W (i+1) m' τ' H'') /\
   ∀ x H2,J.yld i H' x H2->g x τ H2 fun τ2 H3=>tc τ2 H3 fun b H4=>if b=true then te τ2 H4 fun y H5=>∃ ys,H5 D=some (.lst ys)/\ys.length<sizeLine/\N τ2 (upd H5 D (.lst (ys++[y]))) else N τ2 H4)
theorem tComp_eq {nt:Nat} {fr:List (Str×Nat)} {wi:TI} {g:TG} {tc:TT} {te:TE} {σ:St} {H:Hp} {Q:VK} :
    tComp nt fr wi g tc te σ H Q=wi σ H fun J H1=>∀ D,H1 D=none->CompG J g tc te D (List.replicate nt none++fr.map fun p=>(σ[p.2]?).join) (upd H1 D (.lst [])) Q:=rfl
abbrev Q4:=Int×Int×Int×Int
def q4 (q:Q4):List V:=[.int q.1,.int q.2.1,.int q.2.2.1,.int q.2.2.2]
theorem zoq (ns:List Int) (lo hi:Option Int):∃ ms:List Int,cutV (ns.map V.int) lo hi=ms.map V.int/\ms.length<=ns.length:=by
 refine ⟨(ns.drop (HT.sIx (ns.map V.int).length 0 lo)).take (HT.sIx (ns.map V.int).length (ns.map V.int).length hi-HT.sIx (ns.map V.int).length 0 lo),?_,?_⟩
 ·unfold cutV; rw [List.map_take,List.map_drop]
 ·rw [List.length_take,List.length_drop]; omega
mutual
theorem zjb:∀ d:PyData,d.canLay0=true->PyData.eqv d d=true
 | .none,_=>rfl
 | .bool b,_=>by simp [PyData.eqv]
 | .int i,_=>by simp [PyData.eqv]
 | .str x,_=>by simp [PyData.eqv]
 | .list xs,h=>by
  have h:PyData.canLayAll0 xs=true:=by simpa only [PyData.canLay0] using h
  simpa only [PyData.eqv] using zfg xs h
 | .tuple xs,h=>by
  have h:PyData.canLayAll0 xs=true:=by simpa only [PyData.canLay0] using h
  simpa only [PyData.eqv] using zfg xs h
 | .dict _,h=>by simp [PyData.canLay0] at h
theorem zfg:∀ ds:List PyData,PyData.canLayAll0 ds=true->PyData.eqvAll ds ds=true
 | [],_=>rfl
 | d :: r,h=>by
  simp only [PyData.canLayAll0,Bool.and_eq_true] at h
  simp only [PyData.eqvAll,Bool.and_eq_true]
  exact ⟨zjb d h.1,zfg r h.2⟩
end
theorem zkd {α:Type} {f:α->PyData} {n:Nat} (h:∀ a,(f a).depth<=n):∀ l:List α,PyData.depthAll (l.map f)<=n
 | []=>Nat.zero_le _
 | a :: r=>by
  have h1:=h a
  have h2:=zkd h r
  simp only [List.map_cons,PyData.depthAll]
  omega
end L2
namespace L2
open PySem PySem.Spec PyProof.Rows
end L2
namespace L2
open PySem PySem.Spec PyProof.Rows
section
variable {X:Cx}
theorem zor (K:PySem.W.Frag) (h:X.K=K) (hu:X.A.units+64<cLine):OpR X (compareOp .Eq) (rEqD K):=h ▸ ztu hu
theorem zet (K:PySem.W.Frag) (h:X.K=K) (hu:X.A.units+64<cLine):OpR X (compareOp .NotEq) (rNeD K):=h ▸ ztv hu
end
theorem eq_at {K:PySem.W.Frag} {H:Hp} {x y:V} {d e:PyData} {Q:VK} (hx:Deep K H x d) (hy:Deep K H y e) (sd:PySem.SeqAt.shaped d=true) (se:PySem.SeqAt.shaped e=true) (q:Q (.bl (PyData.eqv d e)) H):rEqD K x y H Q:=⟨d,e,hx,hy,sd,se,q⟩
theorem ne_at {K:PySem.W.Frag} {H:Hp} {x y:V} {d e:PyData} {Q:VK} (hx:Deep K H x d) (hy:Deep K H y e) (sd:PySem.SeqAt.shaped d=true) (se:PySem.SeqAt.shaped e=true) (q:Q (.bl (!PyData.eqv d e)) H):rNeD K x y H Q:=⟨d,e,hx,hy,sd,se,q⟩
theorem zhj {K:PySem.W.Frag} {H:Hp} {x y:V} {d:PyData} {Q:VK} (hx:Deep K H x d) (hy:Deep K H y d) (sd:PySem.SeqAt.shaped d=true) (q:Q (.bl false) H):rNeD K x y H Q:=by
 refine ne_at hx hy sd sd ?_
 rw [zjb d (PySem.SeqAt.canLay_of_shaped sd)]; exact q
theorem zos {K:PySem.W.Frag} {H:Hp} {x y:V} {d:PyData} {Q:VK} (hx:Deep K H x d) (hy:Deep K H y d) (sd:PySem.SeqAt.shaped d=true) (q:Q (.bl true) H):rEqD K x y H Q:=by
 refine eq_at hx hy sd sd ?_
 rw [zjb d (PySem.SeqAt.canLay_of_shaped sd)]; exact q
theorem zil {K:PySem.W.Frag} {H:Hp} {p:Addr} {ys:List V} {Q:VK} (h:SqL K H p ys) (q:Q (.int ys.length) H):rLen K [.ref p] H Q:=⟨p,ys,rfl,.inl h,q⟩
theorem zke {K:PySem.W.Frag} {H:Hp} {p:Addr} {xs:List V} {lo hi:Option Int} {Q:VK} (h:SqL K H p xs) (q:∀ l,H l=none->Q (.ref l) (upd H l (.lst (cutV xs lo hi)))):rSlL K (.ref p) lo hi H Q:=⟨p,xs,rfl,h,q⟩
end L2
namespace L2
open PySem PySem.Spec PyProof.Rows
section
variable {prog:Program} {w:World} {A:Around} {R:Result->Shared->Prop}
end
end L2
namespace L2
open PySem PySem.Spec PyProof.Rows
def XTr (B:Heap) (e:Addr) (h:Heap) (vs:Array Value):Option Value->Prop
 | none=>vs[1]? = some Value.none
 | some f=>∃ T oT ts,vs[1]? = some (.ref T)/\B.get? T=none/\T≠e/\h.get? T=some oT/\oT.data = .fields ts/\ts[3]? = some f
structure XAt (B:Heap) (e:Addr) (cls:Value) (dct:Option Addr) (fl:Option Value) (h:Heap):Prop where
 stay:B.StaysIn h
 new:B.get? e=none
 ex:∃ oe vs,h.get? e=some oe/\oe.cls=cls/\oe.dict=dct/\oe.data = .fields vs/\1<vs.size/\XTr B e h vs fl
structure UpS (h h':Heap):Prop where
 sl:∀ b o,h.get? b=some o->(∀ vs,o.data≠.fields vs)->∃ sl,h'.get? b=some { o with slots:=sl }
 th:∀ b o,h.get? b=some o->∃ o',h'.get? b=some o'
theorem UpS.trans {h h1 h2:Heap} (a:UpS h h1) (b:UpS h1 h2):UpS h h2:=by
 refine ⟨fun c o e n=>?_,fun c o e=>?_⟩
 ·obtain ⟨s1,e1⟩:=a.sl c o e n
  obtain ⟨s2,e2⟩:=b.sl c _ e1 n
  exact ⟨s2,e2⟩
 ·obtain ⟨o1,e1⟩:=a.th c o e
  exact b.th c o1 e1
theorem UpS.funs {h h' B:Heap} {l:List Env} (u:UpS h h') (f:h.FunFrames B l):h'.FunFrames B l:=f.of_keeps fun b o e n=>by
 obtain ⟨sl,q⟩:=u.sl b o e n
 exact ⟨_,q,rfl⟩
section
variable {M:Model} {A:Around} {E:Value->Shared->Prop} {s:Shared} {B:Heap} {env:Env} {outer:List Env} {L e:Addr} {cls:Value} {dct:Option Addr}
theorem zmd {fl:Option Value} {head:Value} {b1:Bool} {Q:Unit->Shared->Prop} (fr:A.frames=some (env :: outer)) (ff:s.heap.FunFrames B (env :: outer)) (hf:env.frame=some L) (x:XAt B e cls dct fl s.heap)
    (h:∀ h',XAt B e cls dct (some (rawInt L)) h'->UpS s.heap h'->Q () { s with heap:=h' }) :
    wpAny M A (do let a <- frameOf env; let pl <- entryPlaceOf L b1; let b <- EntryCells.newEntry head a .none (rawInt L) .none pl; setField (.ref e) 1 b) Q E s:=by
  obtain ⟨stay,new,oe,vs,oe1,oe2,oe3,oe4,oe5,_⟩:=x
  have nf:e ∉ (env :: outer).filterMap (·.frame):=fun z=>by
    obtain ⟨_,o,q,n⟩:=ff.mem z
    rw [oe1] at q
    cases q
    exact n vs oe4
  refine wpAny_bind (wpAny_frameOf_fun fr ff hf fun h1 sl=>wpAny_bind (wpAny_entryPlaceOf fun pl ip=>?_))
  have e1:h1.get? e=some oe:=(sl.2.1 e nf).trans oe1
  have st1:B.StaysIn h1:=fun b o q=>(sl.2.1 b fun z=>by rw [(ff.mem z).1] at q; cases q).trans (stay b o q)
  unfold EntryCells.newEntry newFields
  refine wpAny_bind (wpAny_newObj_type ?_ (ip.sizeOk5 _ _ _ _ _))
  generalize hT:({ cls:=.type "traceback", dict:=none,data:=.fields ([head,.ref L,.none,rawInt L,.none]++(if pl.isEmpty then List.replicate 6 Value.none else pl)).toArray }:Obj)=oT
  have e2:(h1.push oT).get? e=some oe:=Heap.get?_push_of_some _ e1
  have ne:h1.objs.size≠e:=Nat.ne_of_gt (Heap.lt_size e1)
  refine wpAny_setField e2 oe4 oe5 (h _ ⟨fun b o q=>?_,new,_,_,Heap.get?_update_self _ e2 (Obj.isFreed_of_fields (Obj.data_mapFields oe4 _)),(Obj.cls_mapFields _ _).trans oe2,?_,Obj.data_mapFields oe4 _,by simpa using oe5,h1.objs.size,oT,_,by simp [oe5],st1.fresh,ne,?_,by rw [<- hT],?_⟩ ⟨fun b o q n=>?_,fun b o q=>?_⟩)
  · rw [Heap.get?_update_other _ _ fun z=>by rw [<- z,new] at q; cases q]
    exact Heap.get?_push_of_some _ (st1 b o q)
  · rw [<- oe3]; cases oe with | mk c d da sl=>cases da <;> rfl
  · rw [Heap.get?_update_other _ _ (Ne.symm ne)]
    exact Heap.get?_push_size _ (by rw [<- hT]; rfl)
  · rcases ip with rfl | ⟨_,_,_,_,_,_,_,rfl⟩ <;> simp
  · obtain ⟨s1,q1⟩:=sl.2.2 b o q
    refine ⟨s1,?_⟩
    rw [Heap.get?_update_other _ _ fun z=>by rw [<- z,oe1] at q; cases q; exact n vs oe4]
    exact Heap.get?_push_of_some _ q1
  · by_cases z:b=e
    · rw [z]; exact ⟨_,Heap.get?_update_self _ e2 (Obj.isFreed_of_fields (Obj.data_mapFields oe4 _))⟩
    · obtain ⟨s1,q1⟩:=sl.2.2 b o q
      exact ⟨_,(Heap.get?_update_other _ _ (Ne.symm z)).trans (Heap.get?_push_of_some _ q1)⟩
theorem zfh {f:Value} {Q:Unit->Shared->Prop} (x:XAt B e cls dct (some f) s.heap) (h:∀ h',XAt B e cls dct (some .none) h'->UpS s.heap h'->Q () { s with heap:=h' }):wpAny M A (setFlight (.ref e) none) Q E s:=by
 obtain ⟨stay,new,oe,vs,oe1,oe2,oe3,oe4,oe5,T,oT,ts,t1,t2,t3,t4,t5,t6⟩:=x
 unfold setFlight
 refine wpAny_bind (wpAny_field oe1 oe4 t1 ?_)
 rw [if_pos (show (Value.ref T != Value.none)=true by simp)]
 have h3:3<ts.size:=(Array.getElem?_eq_some_iff.mp t6).1
 have oth:∀ (g:Obj->Obj) b,b≠T->(s.heap.update T g).get? b=s.heap.get? b:=fun g b z=>Heap.get?_update_other _ _ (Ne.symm z)
 refine wpAny_setField t4 t5 h3 (h _ ⟨fun b o q=>?_,new,oe,vs,by rw [oth _ _ (Ne.symm t3)]; exact oe1,oe2,oe3,oe4,oe5,T,_,_,t1,t2,t3,Heap.get?_update_self _ t4 (Obj.isFreed_of_fields (Obj.data_mapFields t5 _)),Obj.data_mapFields t5 _,by simp [h3]⟩ ⟨fun b o q n=>⟨o.slots,?_⟩,fun b o q=>?_⟩)
 ·rw [oth _ _ fun z=>by rw [z,t2] at q; cases q]
  exact stay b o q
 ·rw [oth _ _ fun z=>by rw [z,t4] at q; cases q; exact n ts t5]
  exact q
 ·by_cases z:b=T
  ·rw [z]; exact ⟨_,Heap.get?_update_self _ t4 (Obj.isFreed_of_fields (Obj.data_mapFields t5 _))⟩
  ·exact ⟨o,(oth _ _ z).trans q⟩
theorem zjc {fl:Option Value} {Q:Unit->Shared->Prop} (fr:A.frames=some (env :: outer)) (ff:s.heap.FunFrames B (env :: outer)) (hf:env.frame=some L) (x:XAt B e cls dct fl s.heap) (hfl:fl=none\/fl=some .none)
    (h:∀ h',XAt B e cls dct (some (rawInt L)) h'->UpS s.heap h'->Q () { s with heap:=h' }):wpAny M A (noteFrame (.ref e) env) Q E s:=by
  have x0:=x
  obtain ⟨stay,new,oe,vs,oe1,oe2,oe3,oe4,oe5,tr⟩:=x
  unfold noteFrame
  simp only [hf]
  rcases hfl with rfl | rfl
  · refine wpAny_bind (wpAny_field oe1 oe4 tr ?_)
    rw [if_neg (by decide)]
    exact zmd fr ff hf x0 h
  · obtain ⟨T,oT,ts,t1,t2,t3,t4,t5,t6⟩:=tr
    refine wpAny_bind (wpAny_field oe1 oe4 t1 ?_)
    rw [if_pos (show (Value.ref T != Value.none)=true by simp)]
    refine wpAny_bind (wpAny_field t4 t5 t6 ?_)
    rw [if_neg (show ¬ ((Value.none == rawInt L)=true) by simp [rawInt])]
    have h3:3<ts.size:=(Array.getElem?_eq_some_iff.mp t6).1
    have oth:∀ (g:Obj->Obj) b,b≠T->(s.heap.update T g).get? b=s.heap.get? b:=fun g b z=>Heap.get?_update_other _ _ (Ne.symm z)
    have up:∀ g,UpS s.heap (s.heap.update T (Obj.mapFields g)):=fun g=>⟨fun b o q n=>⟨o.slots,by
      rw [oth _ _ fun z=>by rw [z,t4] at q; cases q; exact n ts t5]; exact q⟩,fun b o q=>by
      by_cases z:b=T
      · rw [z]; exact ⟨_,Heap.get?_update_self _ t4 (Obj.isFreed_of_fields (Obj.data_mapFields t5 _))⟩
      · exact ⟨o,(oth _ _ z).trans q⟩⟩
    refine wpAny_bind (wpAny_setField t4 t5 h3 ?_)
    refine zmd (fl:=some .none) fr ((up _).funs ff) hf ⟨fun b o q=>?_,new,oe,vs,by rw [oth _ _ (Ne.symm t3)]; exact oe1,oe2,oe3,oe4,oe5,T,_,_,t1,t2,t3,Heap.get?_update_self _ t4 (Obj.isFreed_of_fields (Obj.data_mapFields t5 _)),Obj.data_mapFields t5 _,by simp [h3]⟩ fun h' a b=>h h' a ((up _).trans b)
    rw [oth _ _ fun z=>by rw [z,t2] at q; cases q]
    exact stay b o q
theorem zme {fl:Option Value} {Q:Unit->Shared->Prop} (fr:A.frames=some (env :: outer)) (ff:s.heap.FunFrames B (env :: outer)) (hf:env.frame=some L) (x:XAt B e cls dct fl s.heap) (hfl:fl=none\/fl=some .none)
    (h:∀ h',XAt B e cls dct (some .none) h'->UpS s.heap h'->Q () { s with heap:=h' }):wpAny M A (leaving env (.ref e)) Q E s:=by
  unfold leaving
  exact wpAny_bind (zjc fr ff hf x hfl fun h1 x1 u1=>zfh (s:={ s with heap:=h1 }) x1 fun h2 x2 u2=>h h2 x2 (u1.trans u2))
end
end L2
namespace L2
open PySem PySem.Spec PyProof.Rows
abbrev bmV:List Value:=[.type "ValueError", .type "Exception", .type "BaseException", .type "object"]
structure XC (K:PySem.W.Frag) (C:Addr):Prop where
 hd:PySem.W.hasDictIn K C=true
 ga:PySem.W.findIn K (.ref C) "__getattribute__" = some (some (.builtin "BaseException.__getattribute__"))
 gn:PySem.W.findIn K (.ref C) "__getattr__" = some none
 sa:PySem.W.findIn K (.ref C) "__setattr__" = some (some (.builtin "object.__setattr__"))
 cl:PySem.W.findIn K (.ref C) "__class__" = some (some (.builtin "object.__class__"))
 kg:PySem.W.specialIn K (.builtin "object.__class__") "__get__" = some (some (.builtin "getset_descriptor.__get__"))
 kt:PySem.W.takesIn K (.builtin "object.__class__")=some true
 be:PySem.W.mroIn K C (.type "BaseException")=some true
 ob:PySem.W.mroIn K C (.type "object")=some true
 ex:∃ nm q N bs bm hdct sn sub ab col dd k0 k1 k2 k3 k5,K.lookup C=some (excClassObj nm q C N bs bm hdct sn sub ab col dd k0 k1 k2 k3 k5 "ValueError.__new__")/\PySem.W.tailIn K bmV bm=true
theorem XC.plain {K:PySem.W.Frag} {C:Addr} (q:PySem.W.excIn K C bmV "ValueError.__new__" = true) :
    ∃ nm q N bs bm hdct sn sub ab col dd k0 k1 k2 k3 k5,K.lookup C=some (excClassObj nm q C N bs bm hdct sn sub ab col dd k0 k1 k2 k3 k5 "ValueError.__new__")/\PySem.W.tailIn K bmV bm=true/\PySem.W.nsOkIn K N=true/\PySem.W.nsIn K N "__init__" = some none:=by
  unfold PySem.W.excIn at q
  split at q
  · rename_i dd cd sl ho
    split at q
    · rename_i C' bm k0 k1 k2 k3 n k5 hm hs
      simp only [Bool.and_eq_true,beq_iff_eq,Bool.not_eq_true'] at q
      obtain ⟨⟨⟨⟨⟨rfl,rfl⟩,d1⟩,ht⟩,hok⟩,hni⟩:=q
      obtain ⟨nm,bs,mro,ns,qn,hd,sn,sub,ab,col,del⟩:=cd
      dsimp only at hm d1 hok hni
      subst hm d1
      obtain ⟨l⟩:=sl
      simp only at hs
      subst hs
      exact ⟨nm,qn,ns,bs,bm,hd,sn,sub,ab,col,dd,k0,k1,k2,k3,k5,ho,ht,hok,hni⟩
    · cases q
  · cases q
section
variable {prog:Program} {w:World} {A:Around} {E:Value->Shared->Prop} {s:Shared} {K:PySem.W.Frag} {x C:Addr} {ox:Obj} {od:Option Obj}
open PySem.W in
theorem znd {Q:Option Value->Shared->Prop} (X:K.In s.heap) (c:XC K C) (I:PySem.W.InstAt s.heap x ox C od) (h:Q (some (.ref C)) { s with toks:=s.toks+1 }):wpAny (model prog w) A (getAttr? (.ref x) "__class__") Q E s:=by
 have hf:findObj K C od "__class__" = some (.bind (.builtin "getset_descriptor.__get__") (.builtin "object.__class__")):=by
  obtain ⟨cd,hc,_⟩:=any_some c.hd
  unfold findObj
  rw [hc,Option.bind_some,c.cl,Option.bind_some]
  dsimp only
  rw [c.kg,Option.bind_some]
  dsimp only
  rw [c.kt,Option.bind_some]
 obtain ⟨hh,g,d,t,os⟩:=s
 have L0:=I.type (M:=model prog w)
 have L1:=looks_findIn (M:=model prog w) X c.ga
 have L2':=looks_findIn (M:=model prog w) X c.gn
 have L3:=looks_find (M:=model prog w) X I hf
 have sub:Looks (model prog w) hh (isInstance (.ref x) (.type "BaseException")) true:=I.type.andThen (looks_mroIn X c.be)
 have hx:(Value.builtin "BaseException.__getattribute__" == Value.builtin "object.__getattribute__")=false:=by decide +kernel
 have hx1:¬ ((onTheHeap (Value.ref C) && Value.builtin "BaseException.__getattribute__" == Value.builtin "object.__getattribute__")=true):=by rw [hx,Bool.and_false]; exact Bool.false_ne_true
 unfold getAttr? getAttrBy? getAttrBy
 refine wpAny_bind (wpAny_mkText (wpAny_bind (wpAny_attempt (wpAny_holding (wpAny_bind (L0.at (wpAny_bind (L1.at ?_))))))))
 show wpAny _ _ (if (onTheHeap (Value.ref C) && Value.builtin "BaseException.__getattribute__" == Value.builtin "object.__getattribute__")=true then _ else _) _ _ _
 rw [if_neg hx1]
 unfold getAttrByItsOwn hookBefore
 rw [if_pos (show onTheHeap (Value.ref C)=true from rfl)]
 refine wpAny_bind (L2'.at ?_)
 refine wpAny_bind (wpAny_attempt (wpAny_holding ?_))
 show wpAny _ _ (boundAndCalled (.builtin "BaseException.__getattribute__") (.ref x) (.str "__class__" t)) _ _ _
 unfold boundAndCalled
 refine wpAny_bind (wpAny_of_eq (PySem.F.attr_ValueError.ga.bind (.ref x)) ?_)
 show wpAny _ _ (call (.builtin "BaseException.__getattribute__") [.ref x,.str "__class__" t]) _ _ _
 have hk:builtinKind "BaseException.__getattribute__" = some .slot:=by decide +kernel
 have hs:splitId "BaseException.__getattribute__" = some ("BaseException", "__getattribute__"):=by decide +kernel
 refine wpAny_call (codeAny_call_builtin PySem.F.attr_ValueError.ga.plain PySem.F.entry_bexc_ga ?_)
 refine @check_slot (model prog w) _ _ _ "BaseException.__getattribute__" "BaseException" "__getattribute__" (.ref x) [.str "__class__" t] [] _ hk hs sub (PySem.F.args_bexc_ga _ _) ?_
 refine wpAny_bind (wpAny_pure (wpAny_bind (wpAny_pure (wpAny_bind (L0.at (wpAny_bind (L3.at ?_)))))))
 show wpAny _ _ (holding [Value.builtin "object.__class__"] (call (.builtin "getset_descriptor.__get__") [.builtin "object.__class__", .ref x,.ref C]) >>= ret) _ _ _
 refine wpAny_bind (wpAny_holding (wpAny_call (class_get (s:={ heap:=hh,gens:=g,drawn:=d,toks:=t+1,os:=os }) X I c.ob (wpAny_pure ?_))))
 show wpAny _ _ (handedOut (.ref C)) _ _ _
 exact wpAny_pure (wpAny_pure h)
open PySem.W in
theorem zqg (c:XC K C):KitX K (.ref x) (.ref C) (fun h=>∃ ox od,PySem.W.InstAt h x ox C od) where
 ty:=fun _ _ _ ⟨_,_,I⟩=>I.type
 it:=fun _ _ X _=>by
  obtain ⟨cd,hc,_⟩:=any_some c.hd
  unfold clsIn at hc
  split at hc
  ·rename_i ho
   intro A' Q' E' s' k q
   unfold isType loadHead
   exact wpAny_bind (wpAny_loadPart (k _ _ (X _ _ ho)) (wpAny_pure q))
  ·cases hc
 ne:=fun h tp dd its n sl X htp=>by
  obtain ⟨cd,hc,_⟩:=any_some c.hd
  refine Bool.eq_false_iff.mpr fun q=>?_
  have e:C=tp:=Value.ref.inj (beq_iff_eq.mp q)
  subst e
  unfold clsIn at hc
  split at hc
  ·rename_i ho
   have z:=(X _ _ ho).symm.trans htp
   cases z
  ·cases hc
 ca:=fun X ⟨_,_,I⟩ k=>znd X c I k
theorem ztw {us:List Value} {Q:Value->Shared->Prop} (X:K.In s.heap) (q:PySem.W.excIn K C bmV "ValueError.__new__" = true) (hl:us.length<=sizeLine)
    (h:∀ h' e,Heap.MadeExcOf s.heap h' e (.ref C) us->Q (.ref e) { s with heap:=h' }):wpAny (model prog w) A (call (.ref C) us) Q E s:=by
  obtain ⟨nm,qn,N,bs,bm,hdct,sn,sub,ab,col,dd,k0,k1,k2,k3,k5,lk,tl,nk,ni⟩:=XC.plain q
  obtain ⟨hp,g,d,t,os⟩:=s
  exact wpAny_call_exc_subU PySem.F.excBase_ValueError rfl PySem.F.excBase_ValueError (PySem.W.tail_of_in X tl) (X _ _ lk) (.of_isNs (PySem.W.isNs_of_in X nk)) (PySem.W.nsMap_none_of_in X nk ni) (fun h' e m=>h h' e m) hl
theorem ztx {env:Env} {y:Sem Value} {Q:Flow->Shared->Prop} (hh:A.handled=none)
    (h:wpAny (model prog w) A y (fun v s1=>∃ C e oe vs,XC K C/\v = .ref e/\K.In s1.heap/\s1.heap.get? e=some oe/\oe.cls = .ref C/\oe.data = .fields vs/\vs[1]? = some Value.none/\E (.ref e) s1) E s) :
    wpAny (model prog w) A (raiseStmt env (some y) none) Q E s:=by
  unfold raiseStmt
  refine wpAny_bind (wpAny_mono h (fun v s1 z=>?_) fun _ _ z=>z)
  obtain ⟨C,e,oe,vs,c,rfl,X,e1,e2,e3,e4,fin⟩:=z
  obtain ⟨nm,qn,N,bs,bm,hdct,sn,sub,ab,col,dd,k0,k1,k2,k3,k5,lk,tl⟩:=c.ex
  obtain ⟨hp,g,d,t,os⟩:=s1
  have cl:=X _ _ lk
  have hcB:(Value.ref C :: bm).contains (.type "BaseException")=true:=by rw [List.contains_cons,(PySem.W.tail_of_in X tl).hasType (show bmV.contains (.type "BaseException")=true from rfl),Bool.or_true]
  obtain ⟨oc,od,oda,osl⟩:=oe
  dsimp only at e2 e3
  subst e2 e3
  have fl:∀ {α:Type} {QQ:Value->Shared->Prop},QQ .none ⟨hp,g,d,t,os⟩->wpAny (model prog w) A (field (.ref e) 1) QQ E ⟨hp,g,d,t,os⟩:=fun {_ _} z=>wpAny_field e1 rfl e4 z
  repeat (first | (with_reducible refine wpAny_isSubtype_exc cl ?_; rw [hcB]) | with_reducible refine wpAny_loadPart_at e1 ?_ | with_reducible refine wpAny_loadPart_at cl ?_ | with_reducible refine wpAny_field e1 rfl e4 ?_ | wp_step)
  exact wpAny_raiseNew_none hh fin
end
end L2
namespace L2
open PySem PySem.Spec PyProof.Rows
def XOb (e C:Addr) (dct:Option Addr) (fr:Bool) (h:Heap):Prop:=∃ oe vs,h.get? e=some oe/\oe.cls = .ref C/\oe.dict=dct/\oe.data = .fields vs/\1<vs.size/\(fr=true->vs[1]? = some Value.none)
def excO (e C:Addr) (dct:Option Addr) (fr:Bool):HO:=.ext (XOb e C dct fr)
def XDt (d:Addr) (fs:List (Str×V)) (h:Heap):Prop:=∃ mA,h.Ns1 d mA/\∀ f,RelO (fs.lookup f) (mA f)
def xdO (d:Addr) (fs:List (Str×V)):HO:=.ext (XDt d fs)
section
variable {P:Program} {w:World} {H:Hp} {h:Heap}
theorem zlj {e C:Addr} {dct:Option Addr} {fr:Bool} (x:XOb e C dct fr h):ObjOk P w H h e (excO e C dct fr):=by
 refine ⟨x,?_,fun h1 h2 y k=>?_⟩
 ·obtain ⟨oe,vs,e1,_⟩:=x
  exact ⟨oe,e1⟩
 ·obtain ⟨oe,vs,e1,r⟩:=y
  exact ⟨oe,vs,k _ e1,r⟩
theorem ObjOk.there {a:Addr} {o:HO} (x:ObjOk P w H h a o):∃ ob,h.get? a=some ob:=by
 cases o with
 | lst xs=>obtain ⟨_,_,_,_,e⟩:=x; exact ⟨_,e⟩
 | tup xs=>obtain ⟨_,_,_,_,e,_⟩:=x; exact ⟨_,e⟩
 | dK kvs=>obtain ⟨_,_,_,_,o,_,_,e,_⟩:=x; exact ⟨_,e⟩
 | dT kvs=>obtain ⟨_,_,_,_,o,_,_,e,_⟩:=x; exact ⟨_,e⟩
 | set S n=>obtain ⟨o,_,_,_,e,_⟩:=x; exact ⟨_,e⟩
 | ins C dx fs=>obtain ⟨_,_,_,e,_⟩:=x; exact ⟨_,e⟩
 | own y=>exact x
 | xd fs=>obtain ⟨_,⟨_,_,_,e,_⟩,_⟩:=x; exact ⟨_,e⟩
 | rng lo hi=>obtain ⟨_,_,_,e⟩:=x; exact ⟨_,e⟩
 | frz ob u=>obtain ⟨e,_⟩:=x; exact ⟨_,e⟩
 | tbl ps=>exact ⟨_,show h.get? a=some _ from x⟩
 | met f y=>exact ⟨_,show h.get? a=some _ from x⟩
 | ext φ=>exact x.2.1
theorem HOk.exc (x:HOk P w H h) {e C:Addr} {dct:Option Addr} {fr:Bool} (q:H e=some (excO e C dct fr)):XOb e C dct fr h:=(show ObjOk P w H h e (excO e C dct fr) from x e _ q).1
theorem HOk.xd (x:HOk P w H h) {d:Addr} {fs:List (Str×V)} (q:H d=some (xdO d fs)):XDt d fs h:=(show ObjOk P w H h d (xdO d fs) from x d _ q).1
end
structure Fly (P:Program) (w:World) (B:Heap) (l:List Env) (e C:Addr) (dct:Option Addr) (H:Hp) (h:Heap):Prop where
 at_:∃ fl,(fl=none\/fl=some Value.none)/\XAt B e (.ref C) dct fl h
 ff:h.FunFrames B l
 hok:HOk P w H h
 he:H e=some (excO e C dct false)
 cov:∀ a o,H a=some o->a≠e->∃ ob,B.get? a=some ob
def CXX (P:Program) (w:World):CXT:=fun outer H s E e s'=>∃ B ea C dct H',e = .ref ea/\s'.os=s.os/\AllBare s'.gens/\Fly P w B outer ea C dct H' s'.heap/\Un (frs outer) [] H H' s.heap s'.heap /\
 (∀ b o,s.heap.get? b=some o->H b=none->b ∉ frs outer->B.get? b=some o)/\E (.ref ea) dct H'
theorem zmf {P:Program} {w:World} {B:Heap} {e C:Addr} {dct:Option Addr} {fl:Option Value} {H:Hp} {h h':Heap} (x:HOk P w H h) (he:H e=some (excO e C dct false)) (cov:∀ a o,H a=some o->a≠e->∃ ob,B.get? a=some ob) (st:B.StaysIn h)
    (y:XAt B e (.ref C) dct fl h'):HOk P w H h':=fun a o q=>by
  by_cases z:a=e
  · subst z
    rw [he] at q
    cases q
    obtain ⟨oe,vs,e1,e2,e3,e4,e5,_⟩:=y.ex
    exact zlj ⟨oe,vs,e1,e2,e3,e4,e5,fun z=>by cases z⟩
  · refine (x a o q).stay (fun b u hb g=>?_) (fun _ q=>q) fun _ _ q=>q
    have hbe:∃ o',H b=some o'/\b≠e:=by
      rcases hb with rfl | hb
      · exact ⟨_,q,z⟩
      · refine ⟨_,hb,fun y=>?_⟩
        rw [y,he] at hb
        cases hb
    obtain ⟨o',h1,h2⟩:=hbe
    obtain ⟨ob,h3⟩:=cov b o' h1 h2
    have h4:=st b ob h3
    rw [g] at h4
    cases h4
    exact y.stay b _ h3
section
variable {X:Cx} {pins:List (Addr×Obj)} {σ:St} {H H':Hp} {s:Shared} {h':Heap}
theorem Inv.out (I:Inv X pins σ H s) (hex:X.ex = []) (u:Un (frs X.stack) [] H H' s.heap h'):Un X.fs [] X.H₀ H' X.s₀.heap h':=by
 have nl:∀ b o,X.s₀.heap.get? b=some o->b≠X.env.locals:=fun b o q z=>absurd (Nat.lt_of_lt_of_le (Heap.lt_size q) (by rw [z]; exact I.ok.above)) (Nat.lt_irrefl _)
 have nx:∀ b:Addr,b ∉ X.ex:=fun b=>by rw [hex]; simp
 have ns:∀ b o,X.s₀.heap.get? b=some o->b ∉ X.fs->b ∉ frs X.stack:=fun b o q n z=>by
  rcases List.mem_cons.mp (I.stkSub b z) with y | y
  ·exact nl b o q y
  ·exact n y
 refine ⟨fun b o q n hb _=>u.keep b o (I.base.keep b o q n hb (nx b)) (I.base.free b o q n (nx b)) (ns b o q hb) (by simp),fun b o q n hb _=>?_,fun b o q n _=>?_,fun b o q _=>?_,fun b xs q=>u.tups b xs (I.base.tups b xs q),fun b o v q=>u.frzs b o v (I.base.frzs b o v q),fun b ps q=>?_⟩
 ·obtain ⟨sl,e⟩:=I.base.slot b o q n hb (nx b)
  have fr:=I.base.free b o q n (nx b)
  by_cases hs:b∈frs X.stack
  ·obtain ⟨sl2,e2⟩:=u.slot b _ e fr hs (by simp)
   exact ⟨sl2,e2⟩
  ·exact ⟨sl,u.keep b _ e fr hs (by simp)⟩
 ·obtain ⟨o1,e⟩:=I.base.there b o q (nx b)
  exact u.free b o1 e (I.base.free b o q n (nx b)) (by simp)
 ·obtain ⟨o1,e⟩:=I.base.there b o q (nx b)
  exact u.there b o1 e (by simp)
 ·obtain ⟨m1,e1⟩:=I.base.tbls b ps q
  obtain ⟨m2,e2⟩:=u.tbls b _ e1
  exact ⟨m1++m2,by rw [e2,Array.append_assoc]⟩
def bOf (X:Cx) (e:Addr) (h:Heap):Heap:=PySem.W.hideAll h (e :: frs X.stack)
theorem Inv.flyB (I:Inv X pins σ H s) {e C:Addr} {dct:Option Addr} (he:H e=some (excO e C dct true)) :
    XAt (bOf X e s.heap) e (.ref C) dct none s.heap/\s.heap.FunFrames (bOf X e s.heap) X.stack/\(∀ b o,s.heap.get? b=some o->b≠e->b ∉ frs X.stack->(bOf X e s.heap).get? b=some o):=by
  obtain ⟨oe,vs,e1,e2,e3,e4,e5,e6⟩:=I.hok.exc he
  refine ⟨⟨fun b o q=>PySem.W.of_hideAll _ q,PySem.W.hideAll_none _ (.head _),oe,vs,e1,e2,e3,e4,e5,e6 rfl⟩,PySem.W.funFrames_hide I.stack fun env hm a ha=>.tail _ (List.mem_filterMap.mpr ⟨env,hm,ha⟩),fun b o q n1 n2=>PySem.W.hideAll_get _ q fun z=>?_⟩
  rcases List.mem_cons.mp z with y | y
  · exact n1 y
  · exact n2 y
theorem Inv.flyUn (I:Inv X pins σ H s) {e C:Addr} {dct:Option Addr} {fl:Option Value} (he:H e=some (excO e C dct true)) (x:XAt (bOf X e s.heap) e (.ref C) dct fl h') (u:UpS s.heap h') :
    Un (frs X.stack) [] H (upd H e (excO e C dct false)) s.heap h'/\HOk X.prog X.w (upd H e (excO e C dct false)) h'/\∀ a o,upd H e (excO e C dct false) a=some o->a≠e->∃ ob,(bOf X e s.heap).get? a=some ob:=by
  obtain ⟨x0,ff,big⟩:=I.flyB he
  have cov:∀ a o,upd H e (excO e C dct false) a=some o->a≠e->∃ ob,(bOf X e s.heap).get? a=some ob:=fun a o q n=>by
    rw [zah n] at q
    obtain ⟨ob,g⟩:=(I.hok a o q).there
    exact ⟨ob,big a ob g n fun z=>by rw [I.stkFree a z] at q; cases q⟩
  have ne:∀ b,H b=none->b≠e:=fun b n z=>by rw [z,he] at n; cases n
  refine ⟨⟨fun b o q n hb _=>x.stay b o (big b o q (ne b n) hb),fun b o q n hb _=>?_,fun b o q n _=>by rw [zah (ne b n)]; exact n,fun b o q _=>u.th b o q,fun b xs q=>?_,fun b o v q=>?_,fun b ps q=>⟨#[],?_⟩⟩,?_,cov⟩
  · obtain ⟨_,o1,g,nf⟩:=ff.mem (show b∈X.stack.filterMap (·.frame) from hb)
    rw [q] at g
    cases g
    exact u.sl b o q nf
  · rw [zah fun z=>by rw [z,he] at q; cases q]; exact q
  · rw [zah fun z=>by rw [z,he] at q; cases q]; exact q
  · rw [zah fun z=>by rw [z,he] at q; cases q]; simpa using q
  · have h0:HOk X.prog X.w (upd H e (excO e C dct false)) s.heap:=fun a o q=>by
      by_cases z:a=e
      · subst z
        rw [zab] at q
        cases q
        obtain ⟨oe,vs,e1,e2,e3,e4,e5,_⟩:=I.hok.exc he
        exact zlj ⟨oe,vs,e1,e2,e3,e4,e5,fun z=>by cases z⟩
      · rw [zah z] at q
        refine (I.hok a o q).stay (fun _ _ _ g=>g) (fun b g=>?_) fun b xs g=>?_
        · rw [zah fun z=>by rw [z,he] at g; cases g]; exact g
        · rw [zah fun z=>by rw [z,he] at g; cases g]; exact g
    exact zmf h0 zab cov x0.stay x
end
end L2
namespace L2
open PySem PySem.Spec PyProof.Rows
abbrev XH:=Value->Option Addr->St->Hp->Prop
def zdw (CX:CXT) (X:Cx) (Ek:XH):Prop:=∀ (pins:List (Addr×Obj)) (σ:St) (H:Hp) (s:Shared) (e:Value) (s':Shared),Inv X pins σ H s->CX X.stack H s (fun v d H'=>Ek v d σ H') e s'->X.xe e s'
def zot (X:Cx) (Ek:XH):Prop:=∀ (pins:List (Addr×Obj)) (σ:St) (H:Hp) (s:Shared) (e C:Addr) (dct:Option Addr),Inv X pins σ H s->H e=some (excO e C dct true)->Ek (.ref e) dct σ (upd H e (excO e C dct false))->X.xe (.ref e) s
abbrev EX0:XH:=fun _ _ _ _=>False
theorem passN {P:Program} {w:World} {X:Cx}:zdw (CXX P w) X EX0:=fun _ _ _ _ _ _ _ ⟨_,_,_,_,_,_,_,_,_,_,_,h⟩=>h.elim
section
variable {X:Cx} {pins:List (Addr×Obj)} {σ:St} {H H':Hp} {s s':Shared} {B h':Heap} {e C:Addr} {dct:Option Addr} {fl:Option Value}
theorem zrj (F:Fly X.prog X.w B X.stack e C dct H' s'.heap) (un:Un (frs X.stack) [] H H' s.heap s'.heap) (cv:∀ b o,s.heap.get? b=some o->H b=none->b ∉ frs X.stack->B.get? b=some o)
    (x:XAt B e (.ref C) dct fl h') (u:UpS s'.heap h'):Un (frs X.stack) [] H H' s.heap h'/\HOk X.prog X.w H' h':=by
  obtain ⟨fl0,_,x0⟩:=F.at_
  refine ⟨⟨fun b o q n hb _=>x.stay b o (cv b o q n hb),fun b o q n hb _=>?_,un.free,fun b o q hx=>?_,un.tups,un.frzs,un.tbls⟩,zmf F.hok F.he F.cov x0.stay x⟩
  · obtain ⟨sl,e1⟩:=un.slot b o q n hb (by simp)
    obtain ⟨_,o1,g,nf⟩:=F.ff.mem (show b∈X.stack.filterMap (·.frame) from hb)
    rw [e1] at g
    cases g
    obtain ⟨sl2,e2⟩:=u.sl b _ e1 nf
    exact ⟨sl2,e2⟩
  · obtain ⟨o1,e1⟩:=un.there b o q hx
    exact u.th b o1 e1
theorem zgf (I:Inv X pins σ H s) (F:Fly X.prog X.w B X.stack e C dct H' s'.heap) (hos:s'.os=s.os) (hb:AllBare s'.gens) (un:Un (frs X.stack) [] H H' s.heap s'.heap)
    (cv:∀ b o,s.heap.get? b=some o->H b=none->b ∉ frs X.stack->B.get? b=some o) (x:XAt B e (.ref C) dct fl h') (u:UpS s'.heap h'):Inv X pins σ H' { s' with heap:=h' }:=by
  obtain ⟨u2,ok⟩:=zrj F un cv x u
  exact I.call' (s':={ s' with heap:=h' }) (ch:=[]) hos u2 ok hb (fun b z=>absurd z (by simp))
end
section
variable {P:Program} {w:World} {K:PySem.W.Frag} {mg:Str->Option Value} {base:Heap} {N:List Str} {qual:Str} {sc:Scope} {f:Addr} {cd:Value} {A:Around} {outer:List Env} {s₀:Shared} {H₀:Hp} {E:XK}
theorem zeo:zot (cxOf (CXX P w) P w K mg base N qual sc f cd A outer s₀ H₀ E) (fun v d _ H=>E v d H):=by
 intro pins σ H s e C dct I he hE
 obtain ⟨x,ff,big⟩:=I.flyB he
 refine zme (outer:=outer) (L:=s₀.heap.objs.size) I.ok.frames ff rfl x (.inl rfl) fun h' x' u=>?_
 obtain ⟨un,ok,cov⟩:=I.flyUn he x' u
 refine ⟨_,e,C,dct,_,rfl,I.os,I.bare,⟨⟨_,.inr rfl,x'⟩,(u.funs ff).2.2,ok,zab,cov⟩,I.out rfl un,fun b o q n hb=>?_,hE⟩
 have fr:=I.base.free b o q n (by show b ∉ ([]:List Addr); simp)
 refine big b o (I.base.keep b o q n hb (by show b ∉ ([]:List Addr); simp)) (fun z=>by rw [z,he] at fr; cases fr) fun z=>?_
 rcases List.mem_cons.mp (I.stkSub b z) with y | y
 ·exact absurd (Nat.lt_of_lt_of_le (Heap.lt_size q) (by rw [y]; exact I.ok.above)) (Nat.lt_irrefl _)
 ·exact hb y
theorem passF:zdw (CXX P w) (cxOf (CXX P w) P w K mg base N qual sc f cd A outer s₀ H₀ E) (fun v d _ H=>E v d H):=by
 intro pins σ H s e s' I q
 obtain ⟨B,ea,C,dct,H',rfl,hos,hb,F,un,cv,hE⟩:=q
 obtain ⟨fl0,hfl,x0⟩:=F.at_
 refine zme (outer:=outer) (L:=s₀.heap.objs.size) I.ok.frames F.ff rfl x0 hfl fun h' x' u=>?_
 obtain ⟨u2,ok⟩:=zrj (X:=cxOf (CXX P w) P w K mg base N qual sc f cd A outer s₀ H₀ E) F un cv x' u
 refine ⟨B,ea,C,dct,H',rfl,hos.trans I.os,hb,⟨⟨_,.inr rfl,x'⟩,(u.funs F.ff).2.2,ok,F.he,F.cov⟩,I.out rfl u2,fun b o q n hb=>?_,hE⟩
 refine cv b o (I.base.keep b o q n hb (by show b ∉ ([]:List Addr); simp)) (I.base.free b o q n (by show b ∉ ([]:List Addr); simp)) fun z=>?_
 rcases List.mem_cons.mp (I.stkSub b z) with y | y
 ·exact absurd (Nat.lt_of_lt_of_le (Heap.lt_size q) (by rw [y]; exact I.ok.above)) (Nat.lt_irrefl _)
 ·exact hb y
end
def tryCx (P:Program) (w:World) (X:Cx) (pins:List (Addr×Obj)) (Hk:XH):Cx :=
 { X with pn:=X.pn++pins,xe:=fun e s'=>∃ σ H s,Inv X pins σ H s/\CXX P w X.stack H s (fun v d H'=>Hk v d σ H') e s' }
section
variable {P:Program} {w:World} {X:Cx} {pins pins':List (Addr×Obj)} {Hk:XH} {σ:St} {H:Hp} {s:Shared}
theorem unTry (I:Inv (tryCx P w X pins Hk) pins' σ H s):Inv X pins σ H s:=by
 have o:=I.ok
 exact ⟨⟨o.mod,o.kind,o.glob,o.blt,o.above,o.inj,o.has,o.cab,o.hd,o.frames,o.stk,o.exf,o.bs,o.bsz,o.noex,o.exfs,o.funs,o.frf⟩,I.os,I.bare,I.base,I.loc,I.cell,I.free,I.freeC,fun p hp=>I.pin p (List.mem_append_left _ hp),I.hok,I.len⟩
theorem inTry (I:Inv X pins σ H s):Inv (tryCx P w X pins Hk) [] σ H s:=by
 have o:=I.ok
 exact ⟨⟨o.mod,o.kind,o.glob,o.blt,o.above,o.inj,o.has,o.cab,o.hd,o.frames,o.stk,o.exf,o.bs,o.bsz,o.noex,o.exfs,o.funs,o.frf⟩,I.os,I.bare,I.base,I.loc,I.cell,I.free,I.freeC,fun p hp=>I.pin p (by simpa [tryCx] using hp),I.hok,I.len⟩
theorem passT:zdw (CXX P w) (tryCx P w X pins Hk) Hk:=fun _ σ H s _ _ I q=>⟨σ,H,s,unTry I,q⟩
end
def sufCx (X:Cx) (e:Addr):Cx:={ X with A:=X.A.mark (some (.ref e)),calm:=false,xe:=fun _ _=>False }
section
variable {X:Cx} {pins:List (Addr×Obj)} {σ:St} {H:Hp} {s:Shared} {e:Addr}
theorem inSuf (I:Inv X pins σ H s):Inv (sufCx X e) pins σ H s:=by
 have o:=I.ok
 exact ⟨⟨o.mod,o.kind,o.glob,o.blt,o.above,o.inj,o.has,o.cab,(fun z=>by cases z),o.frames,o.stk,o.exf,o.bs,o.bsz,o.noex,o.exfs,o.funs,o.frf⟩,I.os,I.bare,I.base,I.loc,I.cell,I.free,I.freeC,I.pin,I.hok,I.len⟩
theorem unSuf (o:X.Ok) (I:Inv (sufCx X e) pins σ H s):Inv X pins σ H s :=
 ⟨o,I.os,I.bare,I.base,I.loc,I.cell,I.free,I.freeC,I.pin,I.hok,I.len⟩
end
def tCallX (sp:Sp) (Ek:XH) (t:TA):TE:=fun σ H Q=>t σ H fun vs H1=>sp vs H1 Q (fun v d H'=>Ek v d σ H')
section
variable {X:Cx} {CX:CXT} {k:Nat} {x:Str} {ps:List Str} {sp:Sp} {Ek:XH} {p pos:Pos} {e:Expr} {es:List Expr} {t:TA}
theorem zaw (D:Def X.prog X.w X.K X.mg X.base CX k x ps sp) (hr:Room k X.A) (hg:Gl X x) (hx:zdw CX X Ek) (ha:PA X (e :: es) t)
    (hdb:(x == ("__debug__" : Str))=false:=by decide) (he:starEach (e :: es) X.env=(false,eval e X.env) :: starEach es X.env:=by rfl) (hpl:(backTo pos (starEach es X.env)).any (·.1)=false:=by rfl) :
    PE X (.Call (.Name x p) (e :: es) [] pos) (tCallX sp Ek t):=by
  obtain ⟨f,fd,F,hb,hk,hm⟩:=D.ex
  intro pins s σ H Q I h
  refine wpAny_Call_Name_kw (zed I hg hm ?_ hdb)
  refine PySem.W.callWith_K (h₀:=X.base) I.ok.mod.kin hk (thn (ha pos pins s σ H _ I h) fun us s1 ⟨vs,H1,I1,r,q⟩=>⟨I1.kIn,?_⟩) he hpl
  have hl:(us++[]).length=ps.length:=by rw [List.append_nil,<- r.length]; exact F.len _ _ _ _ q
  have hbb:=hb s1 us I1.kIn hl
  rw [List.append_nil] at hbb
  refine wpAny_call (codeAny_mono (F.run X.A X.stack s1 H1 ⟨us,[]⟩ us vs Q _ hr I1.env0 hbb r q) fun r s' hq=>?_)
  cases r with
  | error e=>exact hx pins σ H1 s1 e s' I1 hq
  | ok fl =>
    cases fl with
    | ret u=>exact I1.after hq
    | next=>exact False.elim hq
    | brk=>exact False.elim hq
    | cont=>exact False.elim hq
end
theorem Src.okN {P:Program} {w:World} {K:PySem.W.Frag} {mg:Str->Option Value} {base:Heap} {CX:CXT} {x:Str} {st:Stmt} {N ps:List Str} {k:Nat} {sp:Sp} (F:Src K mg x st ps) (S:FnScope N ps (zac st)) (len:∀ vs H Q E,sp vs H Q E->vs.length=ps.length)
    (hbody:∀ (f:Addr) (cdv:Value) (A:Around) (outer:List Env) (s:Shared) (H:Hp) (vs:List V) (Q:VK) (E:XK),Room k (A.deeper (envOfC x (zac st) s.heap.objs.size f cdv))->sp vs H Q E ->
      ∃ t,PSs (cxOf CX P w K mg base N x (zac st) f cdv A outer s H E).nox (zam st) t/\t { nx:=fun _ H'=>Q .non H',rt:=Q } (start N vs) H):Def P w K mg base CX (k+1) x ps sp:=by
  obtain ⟨f,fd,F,b,m⟩:=F.ex
  obtain ⟨oc,od,kV,doc,pm,an,cdv,ct,osl,rfl,lk,hcd⟩:=F.ex
  exact ⟨f,_,fn_of lk hcd S len fun A outer s H vs Q E hr hsp=>by
    obtain ⟨t,h,q⟩:=hbody f cdv A outer s H vs Q E hr hsp
    exact ⟨t,h.nox,q⟩,b,F.kp,m⟩
theorem Src.okX {P:Program} {w:World} {K:PySem.W.Frag} {mg:Str->Option Value} {base:Heap} {x:Str} {st:Stmt} {N ps:List Str} {k:Nat} {sp:Sp} (F:Src K mg x st ps) (S:FnScope N ps (zac st)) (len:∀ vs H Q E,sp vs H Q E->vs.length=ps.length)
    (hbody:∀ (f:Addr) (cdv:Value) (A:Around) (outer:List Env) (s:Shared) (H:Hp) (vs:List V) (Q:VK) (E:XK),Room k (A.deeper (envOfC x (zac st) s.heap.objs.size f cdv))->sp vs H Q E ->
      ∃ t,PSs (cxOf (CXX P w) P w K mg base N x (zac st) f cdv A outer s H E) (zam st) t/\t { nx:=fun _ H'=>Q .non H',rt:=Q } (start N vs) H):Def P w K mg base (CXX P w) (k+1) x ps sp:=by
  obtain ⟨f,fd,F,b,m⟩:=F.ex
  obtain ⟨oc,od,kV,doc,pm,an,cdv,ct,osl,rfl,lk,hcd⟩:=F.ex
  exact ⟨f,_,fn_of lk hcd S len fun A outer s H vs Q E hr hsp=>hbody f cdv A outer s H vs Q E hr hsp,b,F.kp,m⟩
theorem zou {P:Program} {w:World} {H:Hp} {h:Heap} {a:Addr} (x:HOk P w H h) (e:h.get? a=none):H a=none:=by
 cases q:H a with
 | none=>rfl
 | some o =>
  obtain ⟨ob,g⟩:=(x a o q).there
  rw [e] at g
  cases g
theorem Inv.laidN {X:Cx} {pins:List (Addr×Obj)} {σ:St} {H:Hp} {s:Shared} {h':Heap} {a:Addr} {o:HO} {t':Nat} (I:Inv X pins σ H s) (k:∀ b u,s.heap.get? b=some u->h'.get? b=some u) (hn:s.heap.get? a=none) (new:ObjOk X.prog X.w (upd H a o) h' a o) :
    Inv X pins σ (upd H a o) { s with heap:=h',toks:=t' }:=by
  have fr:=zou I.hok hn
  refine I.un (t':=t') ⟨fun b ob q _ _ _=>k b ob q,fun b ob q _ _ _=>⟨ob.slots,k b ob q⟩,fun b ob q n _=>?_,fun b ob q _=>⟨ob,k b ob q⟩,fun b xs q=>?_,fun b ob v q=>?_,fun b ps q=>⟨#[],?_⟩⟩ fun b ob q=>?_
  · rw [zah fun z=>by rw [z,hn] at q; cases q]; exact n
  · rw [zah (zan q fr)]; exact q
  · rw [zah (zan q fr)]; exact q
  · rw [zah (zan q fr)]; simpa using q
  · by_cases z:b=a
    · subst z
      rw [zab] at q
      cases q
      exact new
    · rw [zah z] at q
      exact (I.hok b ob q).stay (fun c u _ g=>k c u g) (fun c g=>by rw [zah (zan g fr)]; exact g) fun c xs g=>by rw [zah (zan g fr)]; exact g
def tXmk (C:Addr) (t:TA):TE:=fun σ H Q=>t σ H fun vs H1=>vs.length<=1000/\∀ e,H1 e=none->Q (.ref e) (upd H1 e (excO e C none true))
def tRaise (K:PySem.W.Frag) (Ek:XH) (te:TE):TS:=fun _ σ H=>te σ H fun v H1=>∃ e C dct,v = .ref e/\H1 e=some (excO e C dct true)/\XC K C/\Ek (.ref e) dct σ (upd H1 e (excO e C dct false))
section
variable {X:Cx} {C:Addr} {x:Str} {p pos:Pos} {e:Expr} {es:List Expr} {t:TA}
theorem zep (q:PySem.W.excIn X.K C bmV "ValueError.__new__" = true) (kp:PySem.W.keepIn X.K (.ref C)=true) (hg:Gl X x) (hm:X.mg x=some (.ref C)) (ha:PA X (e :: es) t)
    (hdb:(x == ("__debug__" : Str))=false:=by decide) (he:starEach (e :: es) X.env=(false,eval e X.env) :: starEach es X.env:=by rfl) (hpl:(backTo pos (starEach es X.env)).any (·.1)=false:=by rfl) :
    PE X (.Call (.Name x p) (e :: es) [] pos) (tXmk C t):=by
  intro pins s σ H Q I h
  refine wpAny_Call_Name_kw (zed I hg hm ?_ hdb)
  refine PySem.W.callWith_K (h₀:=X.base) I.ok.mod.kin kp (thn (ha pos pins s σ H _ I h) fun us s1 ⟨vs,H1,I1,r,hl,q1⟩=>⟨I1.kIn,?_⟩) he hpl
  refine ztw I1.kIn q (by rw [List.nil_append,<- r.length]; exact line_lit hl) fun h' ea m=>?_
  obtain ⟨tt,g1,g2,g3⟩:=m.there
  exact ⟨.ref ea,_,I1.laidN (t':=s1.toks) m.keeps m.new (zlj ⟨_,_,g1,rfl,rfl,rfl,Nat.lt_of_lt_of_le (by decide) (Nat.le_refl 6),fun _=>rfl⟩),rfl,q1 ea (zou I1.hok m.new)⟩
theorem zcz {Ek:XH} {te:TE} (K:PySem.W.Frag) (hK:X.K=K) (hc:X.calm=true) (hx:zot X Ek) (he:PE X e te):PS X (.Raise (some e) none pos) (tRaise K Ek te):=by
 subst hK
 intro pins s σ H D I h
 rw [arm_exec_Raise]
 refine wpAny_bind (wpAny_standAt ?_)
 show wpAny _ _ (raiseStmt X.env (some (do let v <- eval e X.env; standAt pos; pure v)) none) _ _ _
 refine ztx (K:=X.K) (I.ok.hd hc) (wpAny_bind (thn (he pins s σ H _ I h) fun u s1 ⟨v,H1,I1,r,ea,C,dct,hv,hh,c,q⟩=>wpAny_bind (wpAny_standAt (wpAny_pure ?_))))
 subst hv
 cases (show u=Value.ref ea from r)
 obtain ⟨oe,vs,e1,e2,e3,e4,e5,e6⟩:=I1.hok.exc hh
 exact ⟨C,ea,oe,vs,c,rfl,I1.kIn,e1,e2,e4,e6 rfl,hx pins σ H1 s1 ea C dct I1 hh q⟩
end
section
variable {prog:Program} {w:World} {A:Around} {E:Value->Shared->Prop} {s:Shared} {K:PySem.W.Frag} {e C C':Addr}
theorem zmg {oe:Obj} {b:Bool} {Q:Bool->Shared->Prop} (X:K.In s.heap) (c:XC K C') (he:s.heap.get? e=some oe) (hc:oe.cls = .ref C) (hs:PySem.W.subIn K (.ref C) (.ref C')=some b) (h:Q b s):wpAny (model prog w) A (excMatches (.ref e) (.ref C')) Q E s:=by
 obtain ⟨nm,qn,N,bs,bm,hdct,sn,sub,ab,col,dd,k0,k1,k2,k3,k5,lk,tl⟩:=c.ex
 obtain ⟨hp,g,d,t,os⟩:=s
 have cl:=X _ _ lk
 have hcB:(Value.ref C' :: bm).contains (.type "BaseException")=true:=by rw [List.contains_cons,(PySem.W.tail_of_in X tl).hasType (show bmV.contains (.type "BaseException")=true from rfl),Bool.or_true]
 have LS:=PySem.W.looks_subIn (M:=model prog w) X hs
 have f:=tc_notTuple
 unfold excMatches
 repeat (first | (with_reducible refine wpAny_loadPart_at he ?_; rw [hc]) | with_reducible refine wpAny_loadPart_at cl ?_ | (with_reducible refine wpAny_isSubtype_exc cl ?_; rw [hcB]) | (with_reducible refine LS.at ?_) | wp_step)
 cases b with
 | true=>wp_walk; exact h
 | false=>wp_walk; exact h
end
def hkOf (K:PySem.W.Frag) (C':Addr) (th:Addr->TS) (D:Ends):XH:=fun v d σ H=>∃ e C,v = .ref e/\H e=some (excO e C d false)/\PySem.W.subIn K (.ref C) (.ref C')=some true/\th e D σ H
def tTry (K:PySem.W.Frag) (C':Addr) (tb:XH->TS) (th:TS):TS:=fun D σ H=>tb (hkOf K C' (fun _=>th) D) D σ H
def tTryAs (K:PySem.W.Frag) (C':Addr) (i:Nat) (tb:XH->TS) (th:TS):TS:=fun D σ H =>
 tb (hkOf K C' (fun e D σ H=>th { nx:=fun σ H=>D.nx (σ.set i none) H,rt:=D.rt,bk:=fun σ H=>D.bk (σ.set i none) H,ct:=fun σ H=>D.ct (σ.set i none) H } (σ.set i (some (.ref e))) H) D) D σ H
section
variable {P:Program} {w:World} {X:Cx} {C':Addr} {x:Str} {np hpos pos:Pos} {body suite:List Stmt} {b0:Stmt} {tb:XH->TS} {th:TS}
theorem SP.unTry {pins:List (Addr×Obj)} {Hk:XH} {D:Ends} {f:Flow} {s':Shared} (h:SP (tryCx P w X pins Hk) [] D f s'):SP X pins D f s':=by
 cases f with
 | next=>obtain ⟨σ,H,I,q⟩:=h; exact ⟨σ,H,L2.unTry I,q⟩
 | brk=>obtain ⟨σ,H,I,q⟩:=h; exact ⟨σ,H,L2.unTry I,q⟩
 | cont=>obtain ⟨σ,H,I,q⟩:=h; exact ⟨σ,H,L2.unTry I,q⟩
 | ret u=>obtain ⟨v,σ,H,I,r,q⟩:=h; exact ⟨v,σ,H,L2.unTry I,r,q⟩
theorem SP.unSuf {pins:List (Addr×Obj)} {e:Addr} {D:Ends} {f:Flow} {s':Shared} (o:X.Ok) (h:SP (sufCx X e) pins D f s'):SP X pins D f s':=by
 cases f with
 | next=>obtain ⟨σ,H,I,q⟩:=h; exact ⟨σ,H,L2.unSuf o I,q⟩
 | brk=>obtain ⟨σ,H,I,q⟩:=h; exact ⟨σ,H,L2.unSuf o I,q⟩
 | cont=>obtain ⟨σ,H,I,q⟩:=h; exact ⟨σ,H,L2.unSuf o I,q⟩
 | ret u=>obtain ⟨v,σ,H,I,r,q⟩:=h; exact ⟨v,σ,H,L2.unSuf o I,r,q⟩
theorem zrk (hP:X.prog=P) (hw:X.w=w) (K:PySem.W.Frag) (hK:X.K=K) (hst:X.stack=X.env :: X.outer) (hf:X.env.frame=some X.env.locals) (c:XC K C') (hg:Gl X x) (hm:X.mg x=some (.ref C'))
    (hb:∀ pins Hk,PSs (tryCx P w X pins Hk) body (tb Hk)) (hs:∀ e,PSs (sufCx X e) (b0 :: suite) th) (hdb:(x == ("__debug__" : Str))=false:=by decide) :
    PS X (.Try body [.ExceptHandler (some (.Name x np)) none (b0 :: suite) hpos] [] [] pos) (tTry K C' tb th):=by
  subst hP hw hK
  intro pins s σ H D I h
  refine wpAny_Try_except (wpAny_mono (hb pins _ [] s σ H D (inTry I) h) (fun f s1 z=>?_) fun ev s1 z=>?_)
  · have z:=SP.unTry z
    cases f with
    | next=>obtain ⟨σ1,H1,I1,q⟩:=z; exact wpAny_execs_nil ⟨σ1,H1,I1,q⟩
    | brk=>exact z
    | cont=>exact z
    | ret u=>exact z
  · obtain ⟨σ1,H1,s2,J,B,ea,C,dct,H',rfl,hos,hbr,F,un,cv,e2,C2,hv,he2,hsub,q⟩:=z
    cases hv
    have eC:C2=C/\True:=by
      obtain ⟨oe,vs,g1,g2,_⟩:=F.hok.exc he2
      obtain ⟨oe',vs',g1',g2',_⟩:=F.hok.exc F.he
      rw [g1] at g1'
      cases g1'
      rw [g2] at g2'
      exact ⟨Value.ref.inj g2',trivial⟩
    obtain ⟨rfl,_⟩:=eC
    obtain ⟨fl0,hfl,x0⟩:=F.at_
    refine zjc (outer:=X.outer) (by rw [<- hst]; exact J.ok.frames) (by rw [<- hst]; exact F.ff) hf x0 hfl fun h1 x1 u1=>?_
    refine zfh (s:={ s1 with heap:=h1 }) x1 fun h2 x2 u2=>?_
    have J2:=zgf J F hos hbr un cv x2 (u1.trans u2)
    refine wpAny_handleBy_cons (codeAny_handlers_test (zed (X:=sufCx X ea) (inSuf J2) hg hm ?_ hdb)) (by intro z; cases z)
    obtain ⟨oe,vs,g1,g2,_⟩:=x2.ex
    refine zmg J2.kIn c g1 g2 hsub (codeAny_handlers_suite ?_)
    refine zfh (s:={ s1 with heap:=h2 }) x2 fun h3 x3 u3=>?_
    have J3:=zgf J F hos hbr un cv x3 ((u1.trans u2).trans u3)
    exact wpAny_mono (hs ea pins _ σ1 H' D (inSuf J3) q) (fun f s4 z=>SP.unSuf J3.ok z) fun _ _ z=>False.elim z
theorem zjd {M:Model} {A:Around} {E:Value->Shared->Prop} {pins:List (Addr×Obj)} {σ:St} {H:Hp} {s:Shared} {i:Nat} {n:Str} {pos:Pos} {Q:Unit->Shared->Prop} (I:Inv X pins σ H s) (hN:X.N.Nodup) (hi:X.N[i]? = some n) (hl:X.env.scope.names.lookup n=some .local)
    (h:∀ s',Inv X pins (σ.set i none) H s'->Q () s'):wpAny M A (do bindName X.env n .none; unbindBehindTheSuite X.env n pos) Q E s:=by
  have hcls:(X.env.scope.kind == .class || (X.env.scope.kind == .module && X.env.locals != X.env.globals))=false:=by rw [I.ok.kind]; rfl
  refine wpAny_bind (wpAny_bindName (zgy (v:=V.non) I hN hi (.inl hl) rfl (fun s1 I1=>?_) (.inr hl)))
  unfold unbindBehindTheSuite
  refine wpAny_onRaise ?_
  obtain ⟨m,hn,hlk⟩:=id I1.loc
  have hil:i < σ.length:=by rw [I.len]; exact (List.getElem?_eq_some_iff.mp hi).1
  obtain ⟨u,ru,lk⟩:=hlk i n .non hi (by rw [List.getElem?_set_self hil]) (.inl hl)
  have mv:m n=some u:=by
    rcases lk with ⟨_,z⟩ | ⟨z,_⟩
    · exact z
    · rcases z with z | z
      · rw [show X.env.kindOf n=some .local from hl] at z; cases z
      · rw [show X.env.kindOf n=some .local from hl] at z; cases z
  refine wpAny_unbindName_local (show X.env.kindOf n=some .local from hl) hn mv hcls fun h' u' hn' hs=>h _ ?_
  have cne:=I1.cne
  refine ⟨I1.ok,I1.os,I1.bare,⟨fun b o e n hb hx=>?_,fun b o e n hb hx=>?_,I1.base.free,fun b o e hx=>?_,I1.base.tups,I1.base.frzs,I1.base.tbls⟩,⟨_,hn',fun j y v' e1 e2 e3=>?_⟩,fun y c e=>?_,I1.free,I1.freeC,fun p hp=>?_,fun b ob e=>?_,?_⟩
  · exact (hs.2 b (Nat.ne_of_lt (Nat.lt_of_lt_of_le (Heap.lt_size e) I1.ok.above))).trans (I1.base.keep b o e n hb hx)
  · obtain ⟨sl,e1⟩:=I1.base.slot b o e n hb hx
    exact ⟨sl,(hs.2 b (Nat.ne_of_lt (Nat.lt_of_lt_of_le (Heap.lt_size e) I1.ok.above))).trans e1⟩
  · obtain ⟨o',e1⟩:=I1.base.there b o e hx
    exact ⟨o',(hs.2 b (Nat.ne_of_lt (Nat.lt_of_lt_of_le (Heap.lt_size e) I1.ok.above))).trans e1⟩
  · by_cases hj:j=i
    · subst hj
      rw [List.getElem?_set_self hil] at e2
      cases e2
    · have e2':(σ.set i (some V.non))[j]? = some (some v'):=by
        rw [List.getElem?_set_ne (Ne.symm hj)] at e2 ⊢; exact e2
      obtain ⟨u1,r1,q⟩:=hlk j y v' e1 e2' e3
      refine ⟨u1,r1,?_⟩
      rcases q with ⟨k,e⟩ | ⟨k,c,e,z⟩
      · refine .inl ⟨k,?_⟩
        have:y≠n:=fun e=>hj (ziu hN e1 (e ▸ hi))
        simp [this,e]
      · exact .inr ⟨k,c,e,z.sameBut hs (cne y c e)⟩
  · obtain ⟨w',z⟩:=I1.cell y c e
    exact ⟨w',z.sameBut hs (cne y c e)⟩
  · obtain ⟨e,n,ne,nf,d⟩:=I1.pin p hp
    exact ⟨(hs.2 p.1 ne).trans e,n,ne,nf,d⟩
  · refine (I1.hok b ob e).stay (fun c w' hc q=>(hs.2 c ?_).trans q) (fun _ q=>q) fun _ _ q=>q
    rintro rfl
    have fr:H X.env.locals=none:=I1.free
    rcases hc with z | hc
    · rw [<- z,fr] at e; cases e
    · rw [fr] at hc; cases hc
  · have:=I1.len
    rw [List.length_set] at this ⊢
    exact this
theorem zqh {i:Nat} {n:Str} (hP:X.prog=P) (hw:X.w=w) (K:PySem.W.Frag) (hK:X.K=K) (hst:X.stack=X.env :: X.outer) (hf:X.env.frame=some X.env.locals) (c:XC K C') (hg:Gl X x) (hm:X.mg x=some (.ref C'))
    (hN:X.N.Nodup) (hi:X.N[i]? = some n) (hl:X.env.scope.names.lookup n=some .local)
    (hb:∀ pins Hk,PSs (tryCx P w X pins Hk) body (tb Hk)) (hs:∀ e,PSs (sufCx X e) (b0 :: suite) th) (hdb:(x == ("__debug__" : Str))=false:=by decide) :
    PS X (.Try body [.ExceptHandler (some (.Name x np)) (some n) (b0 :: suite) hpos] [] [] pos) (tTryAs K C' i tb th):=by
  subst hP hw hK
  intro pins s σ H D I h
  refine wpAny_Try_except (wpAny_mono (hb pins _ [] s σ H D (inTry I) h) (fun f s1 z=>?_) fun ev s1 z=>?_)
  · have z:=SP.unTry z
    cases f with
    | next=>obtain ⟨σ1,H1,I1,q⟩:=z; exact wpAny_execs_nil ⟨σ1,H1,I1,q⟩
    | brk=>exact z
    | cont=>exact z
    | ret u=>exact z
  · obtain ⟨σ1,H1,s2,J,B,ea,C,dct,H',rfl,hos,hbr,F,un,cv,e2,C2,hv,he2,hsub,q⟩:=z
    cases hv
    have eC:C2=C/\True:=by
      obtain ⟨oe,vs,g1,g2,_⟩:=F.hok.exc he2
      obtain ⟨oe',vs',g1',g2',_⟩:=F.hok.exc F.he
      rw [g1] at g1'
      cases g1'
      rw [g2] at g2'
      exact ⟨Value.ref.inj g2',trivial⟩
    obtain ⟨rfl,_⟩:=eC
    obtain ⟨fl0,hfl,x0⟩:=F.at_
    refine zjc (outer:=X.outer) (by rw [<- hst]; exact J.ok.frames) (by rw [<- hst]; exact F.ff) hf x0 hfl fun h1 x1 u1=>?_
    refine zfh (s:={ s1 with heap:=h1 }) x1 fun h2 x2 u2=>?_
    have J2:=zgf J F hos hbr un cv x2 (u1.trans u2)
    refine wpAny_handleBy_cons (codeAny_handlers_test (zed (X:=sufCx X ea) (inSuf J2) hg hm ?_ hdb)) (by intro z; cases z)
    obtain ⟨oe,vs,g1,g2,_⟩:=x2.ex
    refine zmg J2.kIn c g1 g2 hsub (codeAny_handlers_suite_as ?_)
    refine zfh (s:={ s1 with heap:=h2 }) x2 fun h3 x3 u3=>?_
    have J3:=zgf J F hos hbr un cv x3 ((u1.trans u2).trans u3)
    refine zgy (X:=sufCx X ea) (v:=V.ref ea) (inSuf J3) hN hi (.inl hl) rfl (fun s4 J4=>?_) (.inr hl)
    refine wpAny_mono (hs ea pins s4 _ H' _ J4 q) (fun f s5 z=>?_) fun _ _ z=>False.elim z
    have o:X.Ok:=J3.ok
    show wpAny _ _ _ (fun _ s6=>SP X pins D f s6) _ _
    cases f with
    | next=>obtain ⟨σ5,H5,J5,q5⟩:=z; exact zjd (unSuf o J5) hN hi hl fun s6 J6=>⟨_,_,J6,q5⟩
    | brk=>obtain ⟨σ5,H5,J5,q5⟩:=z; exact zjd (unSuf o J5) hN hi hl fun s6 J6=>⟨_,_,J6,q5⟩
    | cont=>obtain ⟨σ5,H5,J5,q5⟩:=z; exact zjd (unSuf o J5) hN hi hl fun s6 J6=>⟨_,_,J6,q5⟩
    | ret u=>obtain ⟨v,σ5,H5,J5,r5,q5⟩:=z; exact zjd (unSuf o J5) hN hi hl fun s6 J6=>⟨v,_,_,J6,r5,q5⟩
end
end L2
namespace L2
open PySem PySem.Spec PyProof.Rows
def XFull (H:Hp) (dct:Option Addr):Prop:=dct=none\/∃ d fs,dct=some d/\H d=some (xdO d fs)
theorem zty {d:Addr} {fs:List (Str×V)} {h:Heap} (x:XDt d fs h):∃ o,h.get? d=some o:=by
 obtain ⟨mA,⟨o,es,ep,e1,_⟩,_⟩:=x
 exact ⟨o,e1⟩
theorem zqi {P:Program} {w:World} {H:Hp} {h:Heap} {e C:Addr} {dct:Option Addr} {fr:Bool} (x:HOk P w H h) (he:H e=some (excO e C dct fr)) (hf:XFull H dct):∃ ox od,PySem.W.InstAt h e ox C od:=by
 obtain ⟨oe,vs,e1,e2,e3,e4,_⟩:=x.exc he
 have no:PySem.W.notCls oe=true:=by unfold PySem.W.notCls; rw [e4]
 rcases hf with rfl | ⟨d,fs,rfl,hd⟩
 ·exact ⟨oe,none,e1,e2,no,by rw [e3]; trivial⟩
 ·obtain ⟨o,g⟩:=zty (x.xd hd)
  exact ⟨oe,some o,e1,e2,no,by rw [e3]; exact g⟩
def zrl (K:PySem.W.Frag):List V->Hp->VK->Prop:=fun xs H Q=>∃ e C dct fr c cv b,xs = [.ref e,c]/\H e=some (excO e C dct fr)/\XFull H dct/\XC K C/\clsV c=some cv/\PySem.W.kitOne K (.ref C) cv=some b/\Q (.bl b) H
section
variable {X:Cx}
theorem zcl (K:PySem.W.Frag) (hK:X.K=K):CallR X (.builtin "isinstance") (zrl K):=by
 subst hK
 intro pins s σ H xs us Q I r h
 obtain ⟨e,C,dct,fr,c,cv,b,rfl,he,hf,xc,hc,k,q⟩:=h
 obtain ⟨u,v,rfl,rx,rc⟩:=Vals.two r
 cases (show u=Value.ref e from rx)
 have ec:v=cv:=by
  cases c with
  | ty n=>cases (show v=Value.type n from rc); exact Option.some.inj hc
  | ref a=>cases (show v=Value.ref a from rc); exact Option.some.inj hc
  | _=>cases hc
 subst ec
 exact PySem.W.kia_one (zqg xc) I.kIn (zqi I.hok he hf) k (fun z=>nomatch z) fun tk=>⟨.bl b,H,I.tok _,rfl,q⟩
end
end L2
namespace L2
open PySem PySem.Spec PyProof.Rows
section
variable {K:PySem.W.Frag} {C C':Addr}
theorem zek (q:PySem.W.excIn K C bmV "ValueError.__new__" = true):∃ nm q N bs bm hdct sn sub ab col dd k0 k1 k2 k3 k5,K.lookup C=some (excClassObj nm q C N bs bm hdct sn sub ab col dd k0 k1 k2 k3 k5 "ValueError.__new__")/\PySem.W.tailIn K bmV bm=true:=by
 obtain ⟨nm,q,N,bs,bm,hdct,sn,sub,ab,col,dd,k0,k1,k2,k3,k5,l,t,_⟩:=XC.plain q
 exact ⟨nm,q,N,bs,bm,hdct,sn,sub,ab,col,dd,k0,k1,k2,k3,k5,l,t⟩
theorem zez:PySem.W.kitOne K (.ref C) (.ref C)=some true:=by
 unfold PySem.W.kitOne
 rw [if_pos (by simp)]
theorem zbd {cd:ClassData} {b:Bool} (n:(Value.ref C == Value.ref C')=false) (hc:PySem.W.clsIn K C'=some cd) (ht:PySem.W.typeIn K (.ref C')=some (.type "type")) (hs:PySem.W.subIn K (.ref C) (.ref C')=some b):PySem.W.kitOne K (.ref C) (.ref C')=some b:=by
 unfold PySem.W.kitOne
 rw [if_neg (by rw [n]; decide)]
 unfold PySem.W.kitCls
 dsimp only
 rw [if_pos (by rw [hc,ht]; rfl)]
 exact hs
theorem zim {b:Bool} (hs:PySem.W.subIn K (.ref C) (.type "ValueError")=some b):PySem.W.kitOne K (.ref C) (.type "ValueError")=some b:=by
 unfold PySem.W.kitOne
 rw [if_neg (by simp)]
 unfold PySem.W.kitCls
 dsimp only
 rw [if_pos (by decide +kernel)]
 exact hs
end
end L2
namespace L2
open PySem PySem.Spec PyProof.Rows
end L2
namespace L2
open PySem PySem.Spec PyProof.Rows
section
variable {α:Type} {enc:α->List V} {H H':Hp} {ps:List Addr} {qs:List α}
end
abbrev F2:=Int×Int
def f2 (q:F2):List V:=[.int q.1,.int q.2]
end L2
namespace Sw
open L2
def nrm (q:F2):F2:=(rN q.1 q.2,rD q.1 q.2)
theorem nrm_fr {q:F2} (h:q.2≠0):Fr (nrm q).1 (nrm q).2:=ztt h
theorem nrm_cross {q:F2} (h:q.2≠0):(nrm q).1*q.2=(nrm q).2*q.1:=zok h
end Sw
namespace L2
open PySem PySem.Spec PyProof.Rows
theorem zhk {H:Hp} {l:Addr} {xs:List V} {y:V} {Q:VK} (h:H l=some (.lst xs)) (hz:xs.length<1000) (q:Q .non (upd H l (.lst (xs++[y])))):zoc (.ref l) [y] H Q:=⟨l,xs,y,rfl,rfl,h,line_lt hz,q⟩
theorem zeq {K:PySem.W.Frag} {H:Hp} {l:Addr} {xs:List V} (h:H l=some (.lst xs)):tyV K "list" (.ref l) H:=.inl ⟨rfl,_,.of h⟩
end L2
namespace L2
open PySem PySem.Spec PyProof.Rows
structure RoomN (k:Nat) (A:Around):Prop where
 dp:A.depth+3*k+5<recursionLimit
 un:A.units+16*k+200<cLine
theorem Room.mark {j k:Nat} {A:Around} {h:Option Value} (r:Room k A) (hj:j<=k:=by decide):RoomN j (A.mark h):=⟨by have:=r.dp; show A.depth+3*j+5 < _; omega,by have:=r.un; show A.units+16*j+200 < _; omega⟩
theorem RoomN.deeper {k:Nat} {A:Around} (r:RoomN (k+1) A) (env:Env):RoomN k (A.deeper env):=⟨by have:=r.dp; show A.depth+1+3*k+5 < _; omega,by have:=r.un; show A.units+3+16*k+200 < _; omega⟩
structure FnOkN (P:Program) (w:World) (K:PySem.W.Frag) (mg:Str->Option Value) (base:Heap) (CX:CXT) (k:Nat) (f:Addr) (fd:FuncData) (ps:List Str) (sp:Sp):Prop where
 len:∀ vs H Q E,sp vs H Q E->vs.length=ps.length
 run:∀ (A:Around) (outer:List Env) (s:Shared) (H:Hp) (args:Args) (us:List Value) (vs:List V) (Q:VK) (E:XK),RoomN k A->Env0 P w K mg base A outer s H->BindsTo s fd args (ps.zip us)->Vals vs us->sp vs H Q E ->
  codeAny (model P w) A (.call (.ref f) args) (CR CX outer P w H s Q E) s
structure DefN (P:Program) (w:World) (K:PySem.W.Frag) (mg:Str->Option Value) (base:Heap) (CX:CXT) (k:Nat) (x:Str) (ps:List Str) (sp:Sp):Prop where
 ex:∃ (f:Addr) (fd:FuncData),FnOkN P w K mg base CX k f fd ps sp/\Binds K fd ps []/\PySem.W.keepIn K (.ref f)=true/\mg x=some (.ref f)
def cxOfN (CX:CXT) (P:Program) (w:World) (K:PySem.W.Frag) (mg:Str->Option Value) (base:Heap) (N:List Str) (qual:Str) (scope:Scope) (f:Addr) (cd:Value) (A:Around) (outer:List Env) (s:Shared) (H:Hp) (E:XK):Cx :=
 { cxOf CX P w K mg base N qual scope f cd A outer s H E with calm:=false }
theorem zne {CX:CXT} {P:Program} {w:World} {K:PySem.W.Frag} {mg:Str->Option Value} {base:Heap} {N ps:List Str} {qual:Str} {scope:Scope} {f:Addr} {cd:Value} {A:Around} {outer:List Env} {s s1:Shared} {H:Hp} {E:XK} {us:List Value} {vs:List V}
    (S:FnScope N ps scope) (e0:Env0 P w K mg base A outer s H) (hl:vs.length=ps.length) (r:Vals vs us)
    (x:InCallC s s.heap.objs.size (bindL (envOfC qual scope s.heap.objs.size f cd).kindOf (ps.zip us) fun _=>none) (cellsFrom (s.heap.objs.size+1) scope.names []) (bindC (envOfC qual scope s.heap.objs.size f cd).kindOf (ps.zip us) fun _=>none) s1) :
    Inv (cxOfN CX P w K mg base N qual scope f cd A outer s H E) [] (start N vs) H s1:=by
  have e1:Env0 P w K mg base { A with handled:=none } outer s H:=⟨e0.frames,e0.mod,e0.bs,e0.bsz,e0.funs,e0.frf,e0.hok,e0.bare⟩
  have I:=zjv (CX:=CX) (E:=E) (A:={ A with handled:=none }) S rfl e1 hl r x
  have o:=I.ok
  exact ⟨⟨o.mod,o.kind,o.glob,o.blt,o.above,o.inj,o.has,o.cab,(fun z=>by cases z),Around.frames_deeper e0.frames,o.stk,o.exf,o.bs,o.bsz,o.noex,o.exfs,o.funs,o.frf⟩,I.os,I.bare,I.base,I.loc,I.cell,I.free,I.freeC,I.pin,I.hok,I.len⟩
theorem Src.okM {P:Program} {w:World} {K:PySem.W.Frag} {mg:Str->Option Value} {base:Heap} {CX:CXT} {x:Str} {st:Stmt} {N ps:List Str} {k:Nat} {sp:Sp} (F:Src K mg x st ps) (S:FnScope N ps (zac st)) (len:∀ vs H Q E,sp vs H Q E->vs.length=ps.length)
    (hbody:∀ (f:Addr) (cdv:Value) (A:Around) (outer:List Env) (s:Shared) (H:Hp) (vs:List V) (Q:VK) (E:XK),RoomN k (A.deeper (envOfC x (zac st) s.heap.objs.size f cdv))->sp vs H Q E ->
      ∃ t,PSs (cxOfN CX P w K mg base N x (zac st) f cdv A outer s H E).nox (zam st) t/\t { nx:=fun _ H'=>Q .non H',rt:=Q } (start N vs) H):DefN P w K mg base CX (k+1) x ps sp:=by
  obtain ⟨f,fd,F,b,m⟩:=F.ex
  obtain ⟨oc,od,kV,doc,pm,an,cdv,ct,osl,rfl,lk,hcd⟩:=F.ex
  refine ⟨f,_,⟨len,fun A outer s H args us vs Q E hr e0 hb r hsp=>?_⟩,b,F.kp,m⟩
  have hl:=len _ _ _ _ hsp
  have KX:K.In s.heap:=e0.mod.kin.keeps fun b o e=>(e0.bs b o e).1
  have lim:s.heap.NoLimit:=e0.mod.nolimit.keeps fun b o e=>(e0.bs b o e).1
  have hkind:∀ y∈ps.zip us,(zac st).names.lookup y.1=some .local\/((zac st).names.lookup y.1=some .cell/\((cellsFrom (s.heap.objs.size+1) (zac st).names []).lookup y.1).isSome=true):=fun ⟨n,v⟩ hy=>by
    rcases S.par n (List.of_mem_zip hy).1 with q | q
    · exact .inl q
    · exact .inr ⟨q,PySem.W.cellsFrom_some _ _ _ (.inl q)⟩
  refine codeAny_call_function (by have:=hr.dp; omega) (KX _ _ lk) rfl S.co S.gen rfl (PySem.W.codeRec_of KX hcd) (hb _ _ _ _ ?_)
  refine wpAny_newFunctionEnv_cells S.kind hkind fun env he s1 ic=>?_
  subst he
  refine ⟨lim.keeps ic.toInCall.keep,codeAny_func ?_⟩
  obtain ⟨t,ht,hq⟩:=hbody f cdv A outer s H vs Q E (hr.deeper _) hsp
  have I:=zne (CX:=CX) (E:=E) (A:=A) S e0 hl r ic
  refine wpAny_mono (ht.nox [] s1 (start N vs) H _ I hq) (fun fl s' hs=>?_) fun e s' hs=>hs
  have fin:∀ {σ':St} {H':Hp} {v:V} {u:Value},Inv (cxOfN CX P w K mg base N x (zac st) f cdv A outer s H E) [] σ' H' s'->RelV v u->Q v H'->CE outer P w H s Q u s' :=
    fun {σ' H' v u} J rv q=>⟨v,H',J.os,J.bare,J.base,J.hok,rv,q⟩
  cases fl with
  | ret u =>
    obtain ⟨v,σ',H',J,rv,q⟩:=hs
    exact fin J rv q
  | next =>
    obtain ⟨σ',H',J,q⟩:=hs
    exact fin (v:=V.non) (u:=Value.none) J rfl q
  | brk =>
    obtain ⟨_,_,_,q⟩:=hs
    exact False.elim q
  | cont =>
    obtain ⟨_,_,_,q⟩:=hs
    exact False.elim q
def tCallN (sp:Sp) (t:TA):TE:=fun σ H Q=>t σ H fun vs H1=>sp vs H1 Q E0
section
variable {P:Program} {w:World} {X:Cx} {k:Nat} {x:Str} {ps:List Str} {sp:Sp} {p pos:Pos} {e:Expr} {es:List Expr} {t:TA}
theorem zqj (D:DefN X.prog X.w X.K X.mg X.base (CXX P w) k x ps sp) (hr:RoomN k X.A) (hg:Gl X x) (ha:PA X (e :: es) t)
    (hdb:(x == ("__debug__" : Str))=false:=by decide) (he:starEach (e :: es) X.env=(false,eval e X.env) :: starEach es X.env:=by rfl) (hpl:(backTo pos (starEach es X.env)).any (·.1)=false:=by rfl) :
    PE X (.Call (.Name x p) (e :: es) [] pos) (tCallN sp t):=by
  obtain ⟨f,fd,F,hb,hk,hm⟩:=D.ex
  intro pins s σ H Q I h
  refine wpAny_Call_Name_kw (zed I hg hm ?_ hdb)
  refine PySem.W.callWith_K (h₀:=X.base) I.ok.mod.kin hk (thn (ha pos pins s σ H _ I h) fun us s1 ⟨vs,H1,I1,r,q⟩=>⟨I1.kIn,?_⟩) he hpl
  have hl:(us++[]).length=ps.length:=by rw [List.append_nil,<- r.length]; exact F.len _ _ _ _ q
  have hbb:=hb s1 us I1.kIn hl
  rw [List.append_nil] at hbb
  refine wpAny_call (codeAny_mono (F.run X.A X.stack s1 H1 ⟨us,[]⟩ us vs Q _ hr I1.env0 hbb r q) fun r s' hq=>?_)
  cases r with
  | error e=>obtain ⟨_,_,_,_,_,_,_,_,_,_,_,z⟩:=hq; exact z.elim
  | ok fl =>
    cases fl with
    | ret u=>exact I1.after hq
    | next=>exact False.elim hq
    | brk=>exact False.elim hq
    | cont=>exact False.elim hq
end
end L2
namespace L2
open PySem PySem.Spec PyProof.Rows
theorem zfi {K:PySem.W.Frag} {H:Hp} {e C:Addr} {dct:Option Addr} {fr:Bool} {c:V} {cv:Value} {b:Bool} {Q:VK} (he:H e=some (excO e C dct fr)) (hf:XFull H dct) (xc:XC K C) (hc:clsV c=some cv) (k:PySem.W.kitOne K (.ref C) cv=some b) (q:Q (.bl b) H):zrl K [.ref e,c] H Q :=
 ⟨e,C,dct,fr,c,cv,b,rfl,he,hf,xc,hc,k,q⟩
end L2
namespace L2
open PySem PySem.Spec PyProof.Rows
end L2
namespace L2
open PySem PySem.Spec PyProof.Rows
section
variable {X:Cx} {o value:Expr} {f:Str} {pos pos':Pos} {ta tv:TE}
end
def tXmk1 (C:Addr) (sp:Sp) (t:TA):TE:=fun σ H Q=>t σ H fun vs H1=>vs.length<=1000/\∀ e,H1 e=none->sp (.ref e :: vs) (upd H1 e (excO e C none true)) (fun v H2=>v = .non/\Q (.ref e) H2) E0
end L2
namespace L2
open PySem PySem.Spec PyProof.Rows
end L2
namespace L2
open PySem PySem.Spec PyProof.Rows
section
variable {X:Cx}
end
theorem ixInt (xs:List Int) {i:Int} (h0:0<=i) (h1:i<xs.length):∃ z,atI (xs.map V.int) i=some (.int z):=by
 refine ⟨xs[i.toNat]'(by omega),?_⟩
 have:=zes (xs:=xs.map V.int) (j:=i.toNat) (v:=V.int (xs[i.toNat]'(by omega))) (by simp)
 rwa [Int.toNat_of_nonneg h0] at this
theorem pickI {K:PySem.W.Frag} {H:Hp} {t:Addr} {i:Int} {Q:VK} (xs:List Int) (h0:0<=i) (h1:i<xs.length) (k:∀ z:Int,Q (.int z) (upd H t (.lst (xs.map V.int)))):rIxL K (.ref t) (.int i) (upd H t (.lst (xs.map V.int))) Q:=by
 obtain ⟨z,hz⟩:=ixInt xs h0 h1
 exact zgr (.of zab) hz (k z)
end L2
namespace Sw
open L2
def Fine (i:Nat) (b:Int) (q:Q4):Prop:=i<60/\0<=q.1/\q.1<=1000000000000/\0<=q.2.1/\q.2.1<=11/\1<=q.2.2.1/\q.2.2.1<=1000000/\1<=q.2.2.2/\q.2.2.2<=1000000/\b<=q.1
instance (i:Nat) (b:Int) (q:Q4):Decidable (Fine i b q):=by unfold Fine; infer_instance
end Sw
namespace L2
open PySem PySem.Spec PyProof.Rows
def BindsV (K:PySem.W.Frag) (fd:FuncData) (ps:List Str) (dvs:List V):Prop:=∃ ds,Vals dvs ds/\Binds K fd ps ds
theorem BindsV.nil {K:PySem.W.Frag} {fd:FuncData} {ps:List Str} (h:Binds K fd ps []):BindsV K fd ps []:=⟨[],.nil,h⟩
structure FunE (K:PySem.W.Frag) (x qual:Str) (st:Stmt) (f:Addr) (fd:FuncData):Prop where
 ex:∃ (oc:Value) (od:Option Addr) (dV kV doc pm:Value) (an:Option Addr) (cdv ct:Value) (osl:Array (Option Value)),
  fd=PySem.W.fnOf x qual (zao st) (zam st) (zac st) dV kV doc pm an cdv ct/\K.lookup f=some ⟨oc,od,.func fd,osl⟩/\PySem.W.codeIn K cdv qual=true
theorem zbo {K:PySem.W.Frag} {x qual:Str} {st:Stmt} {f:Addr} {oc:Value} {od an:Option Addr} {osl:Array (Option Value)} {dV kV doc pm cdv ct:Value} (l:K.lookup f=some ⟨oc,od,.func (PySem.W.fnOf x qual (zao st) (zam st) (zac st) dV kV doc pm an cdv ct),osl⟩)
    (c:PySem.W.codeIn K cdv qual=true):FunE K x qual st f (PySem.W.fnOf x qual (zao st) (zam st) (zac st) dV kV doc pm an cdv ct):=⟨⟨oc,od,dV,kV,doc,pm,an,cdv,ct,osl,rfl,l,c⟩⟩
theorem zdr {K:PySem.W.Frag} {fd:FuncData} {ps:List Str} {ds:List Value} {T:Addr} {oc:Value} {od:Option Addr} {n:Nat} {osl:Array (Option Value)} {items:Array Value} (hd:fd.defaults = .ref T) (lk:K.lookup T=some ⟨oc,od,.seq items n,osl⟩)
    (h:∀ us:List Value,(us++ds).length=ps.length->∃ k:Option (Array Value)->Sem (List (Str×Value)),bindArgs fd ⟨us,[]⟩ = seqItems? fd.defaults >>= k/\k (some items)=pure (ps.zip (us++ds))):Binds K fd ps ds:=fun s us kx hl=>by
  obtain ⟨k,h1,h2⟩:=h us hl
  exact BindsTo.of_defaults hd (kx _ _ lk) rfl h1 h2
structure MethD (P:Program) (w:World) (K:PySem.W.Frag) (mg:Str->Option Value) (base:Heap) (CX:CXT) (k:Nat) (C:Addr) (m:Str) (ps:List Str) (dss:List (List V)) (sp:Sp):Prop where
 ex:∃ (f:Addr) (fd:FuncData),FnOk P w K mg base CX k f fd ps sp/\Meth K C m f/\∀ dvs∈dss,BindsV K fd ps dvs
structure MkD (P:Program) (w:World) (K:PySem.W.Frag) (mg:Str->Option Value) (base:Heap) (CX:CXT) (k:Nat) (C:Addr) (ps:List Str) (dss:List (List V)) (sp:Sp):Prop where
 ex:∃ (f:Addr) (fd:FuncData),FnOk P w K mg base CX k f fd ps sp/\Mk K C f/\∀ dvs∈dss,BindsV K fd ps dvs
structure SrcM (K:PySem.W.Frag) (C:Addr) (m qual:Str) (st:Stmt) (ps:List Str) (dss:List (List V)):Prop where
 ex:∃ (f:Addr) (fd:FuncData),FunE K m qual st f fd/\Meth K C m f/\∀ dvs∈dss,BindsV K fd ps dvs
structure SrcK (K:PySem.W.Frag) (C:Addr) (qual:Str) (st:Stmt) (ps:List Str) (dss:List (List V)):Prop where
 ex:∃ (f:Addr) (fd:FuncData),FunE K "__init__" qual st f fd/\Mk K C f/\∀ dvs∈dss,BindsV K fd ps dvs
section
variable {P:Program} {w:World} {K:PySem.W.Frag} {mg:Str->Option Value} {base:Heap} {CX:CXT} {C:Addr} {m qual:Str} {st:Stmt} {N ps:List Str} {dss:List (List V)} {k:Nat} {sp:Sp}
theorem SrcM.okN (F:SrcM K C m qual st ps dss) (S:FnScope N ps (zac st)) (len:∀ vs H Q E,sp vs H Q E->vs.length=ps.length)
    (hbody:∀ (f:Addr) (cdv:Value) (A:Around) (outer:List Env) (s:Shared) (H:Hp) (vs:List V) (Q:VK) (E:XK),Room k (A.deeper (envOfC qual (zac st) s.heap.objs.size f cdv))->sp vs H Q E ->
      ∃ t,PSs (cxOf CX P w K mg base N qual (zac st) f cdv A outer s H E).nox (zam st) t/\t { nx:=fun _ H'=>Q .non H',rt:=Q } (start N vs) H):MethD P w K mg base CX (k+1) C m ps dss sp:=by
  obtain ⟨f,fd,F,me,b⟩:=F.ex
  obtain ⟨oc,od,dV,kV,doc,pm,an,cdv,ct,osl,rfl,lk,hcd⟩:=F.ex
  exact ⟨f,_,fn_of lk hcd S len fun A outer s H vs Q E hr hsp=>by
    obtain ⟨t,h,q⟩:=hbody f cdv A outer s H vs Q E hr hsp
    exact ⟨t,h.nox,q⟩,me,b⟩
theorem SrcM.okX (F:SrcM K C m qual st ps dss) (S:FnScope N ps (zac st)) (len:∀ vs H Q E,sp vs H Q E->vs.length=ps.length)
    (hbody:∀ (f:Addr) (cdv:Value) (A:Around) (outer:List Env) (s:Shared) (H:Hp) (vs:List V) (Q:VK) (E:XK),Room k (A.deeper (envOfC qual (zac st) s.heap.objs.size f cdv))->sp vs H Q E ->
      ∃ t,PSs (cxOf (CXX P w) P w K mg base N qual (zac st) f cdv A outer s H E) (zam st) t/\t { nx:=fun _ H'=>Q .non H',rt:=Q } (start N vs) H):MethD P w K mg base (CXX P w) (k+1) C m ps dss sp:=by
  obtain ⟨f,fd,F,me,b⟩:=F.ex
  obtain ⟨oc,od,dV,kV,doc,pm,an,cdv,ct,osl,rfl,lk,hcd⟩:=F.ex
  exact ⟨f,_,fn_of lk hcd S len fun A outer s H vs Q E hr hsp=>hbody f cdv A outer s H vs Q E hr hsp,me,b⟩
theorem SrcK.okN (F:SrcK K C qual st ps dss) (S:FnScope N ps (zac st)) (len:∀ vs H Q E,sp vs H Q E->vs.length=ps.length)
    (hbody:∀ (f:Addr) (cdv:Value) (A:Around) (outer:List Env) (s:Shared) (H:Hp) (vs:List V) (Q:VK) (E:XK),Room k (A.deeper (envOfC qual (zac st) s.heap.objs.size f cdv))->sp vs H Q E ->
      ∃ t,PSs (cxOf CX P w K mg base N qual (zac st) f cdv A outer s H E).nox (zam st) t/\t { nx:=fun _ H'=>Q .non H',rt:=Q } (start N vs) H):MkD P w K mg base CX (k+1) C ps dss sp:=by
  obtain ⟨f,fd,F,me,b⟩:=F.ex
  obtain ⟨oc,od,dV,kV,doc,pm,an,cdv,ct,osl,rfl,lk,hcd⟩:=F.ex
  exact ⟨f,_,fn_of lk hcd S len fun A outer s H vs Q E hr hsp=>by
    obtain ⟨t,h,q⟩:=hbody f cdv A outer s H vs Q E hr hsp
    exact ⟨t,h.nox,q⟩,me,b⟩
theorem SrcK.okX (F:SrcK K C qual st ps dss) (S:FnScope N ps (zac st)) (len:∀ vs H Q E,sp vs H Q E->vs.length=ps.length)
    (hbody:∀ (f:Addr) (cdv:Value) (A:Around) (outer:List Env) (s:Shared) (H:Hp) (vs:List V) (Q:VK) (E:XK),Room k (A.deeper (envOfC qual (zac st) s.heap.objs.size f cdv))->sp vs H Q E ->
      ∃ t,PSs (cxOf (CXX P w) P w K mg base N qual (zac st) f cdv A outer s H E) (zam st) t/\t { nx:=fun _ H'=>Q .non H',rt:=Q } (start N vs) H):MkD P w K mg base (CXX P w) (k+1) C ps dss sp:=by
  obtain ⟨f,fd,F,me,b⟩:=F.ex
  obtain ⟨oc,od,dV,kV,doc,pm,an,cdv,ct,osl,rfl,lk,hcd⟩:=F.ex
  exact ⟨f,_,fn_of lk hcd S len fun A outer s H vs Q E hr hsp=>hbody f cdv A outer s H vs Q E hr hsp,me,b⟩
end
def zmh (C:Addr) (m:Str) (sp:Sp) (dvs:List V) (Ek:XH) (ta:TE) (t:TA):TE:=fun σ H Q=>ta σ H fun x H1=>∃ a dx fs,x = .ref a/\H1 a=some (.ins C dx fs)/\fs.lookup m=none /\
 t σ H1 fun vs H2=>sp (x :: (vs++dvs)) H2 Q (fun v d H'=>Ek v d σ H')
def tMakeX (C:Addr) (sp:Sp) (dvs:List V) (Ek:XH) (t:TA):TE:=fun σ H Q=>t σ H fun vs H1=>∀ x dx,H1 x=none->H1 dx=none->dx≠x ->
 sp (.ref x :: (vs++dvs)) (upd (upd H1 dx (.own x)) x (.ins C dx [])) (fun v H2=>v = .non/\Q (.ref x) H2) (fun v d H'=>Ek v d σ H')
section
variable {X:Cx} {CX:CXT} {k:Nat} {f C:Addr} {fd:FuncData} {ps:List Str} {sp:Sp} {dvs:List V} {dss:List (List V)} {Ek:XH} {x m:Str} {p pos apos:Pos} {e o:Expr} {es:List Expr} {ta:TE} {t:TA}
theorem zlk {pins:List (Addr×Obj)} {σ:St} {H:Hp} {s:Shared} {Q:VK} {us:List Value} {vs:List V} (F:FnOk X.prog X.w X.K X.mg X.base CX k f fd ps sp) (hr:Room k X.A) (hb:BindsV X.K fd ps dvs) (hx:zdw CX X Ek)
    (I:Inv X pins σ H s) (r:Vals vs us) (h:sp (vs++dvs) H Q (fun v d H'=>Ek v d σ H')):wpAny (model X.prog X.w) X.A (call (.ref f) us) (EP X pins σ Q) X.xe s:=by
  obtain ⟨ds,hd,hb⟩:=hb
  have r2:Vals (vs++dvs) (us++ds):=r.append hd
  have hl:(us++ds).length=ps.length:=by rw [<- r2.length]; exact F.len _ _ _ _ h
  refine wpAny_call (codeAny_mono (F.run X.A X.stack s H ⟨us,[]⟩ (us++ds) (vs++dvs) Q _ hr I.env0 (hb s us I.kIn hl) r2 h) fun r s' hq=>?_)
  cases r with
  | error e=>exact hx pins σ H s e s' I hq
  | ok fl =>
    cases fl with
    | ret u=>exact I.after hq
    | next=>exact False.elim hq
    | brk=>exact False.elim hq
    | cont=>exact False.elim hq
theorem zbf {pl:Sem Bool} (D:MethD X.prog X.w X.K X.mg X.base CX k C m ps dss sp) (hin:dvs∈dss) (c:Cls X.K C) (hr:Room k X.A) (hx:zdw CX X Ek) (he:PE X o ta) (ha:PA X (e :: es) t)
    (hst:starEach (e :: es) X.env=(false,eval e X.env) :: starEach es X.env:=by rfl) (hpl:(backTo pos (starEach es X.env)).any (·.1)=false:=by rfl)
    (ht:eval (.Call (.Attribute o m apos) (e :: es) [] pos) X.env=(do
      let ov <- eval o X.env
      standAt apos.atName
      let (f,first) <- holding [ov] (getMethod ov m pl)
      callWith pos f first (backTo pos (starEach (e :: es) X.env)) (backToKw pos (keywordEach [] X.env))):=by rfl) :
    PE X (.Call (.Attribute o m apos) (e :: es) [] pos) (zmh C m sp dvs Ek ta t):=by
  obtain ⟨f,fd,F,hm,hb⟩:=D.ex
  intro pins s σ H Q I h
  refine PySem.W.methodCall_KW (pl:=pl) (thn (he pins s σ H _ I h) fun u s1 ⟨x,H1,I1,rx,a,dx,fs,ex,ea,l,q⟩=>?_) ht
  subst ex
  obtain rfl:u=Value.ref a:=rx
  refine zij I1 ea c hm l ?_
  refine PySem.W.callWith_K (first:=[.ref a]) (h₀:=X.base) I.ok.mod.kin hm.kp (thn (ha pos pins s1 σ H1 _ I1 q) fun us s2 ⟨vs,H2,I2,r,q2⟩=>⟨I2.kIn,?_⟩) hst hpl
  exact zlk (us:=.ref a :: us) (vs:=.ref a :: vs) F hr (hb _ hin) hx I2 (.cons rfl r) q2
theorem zfs {pl:Sem Bool} (D:MethD X.prog X.w X.K X.mg X.base CX k C m ps dss sp) (hin:dvs∈dss) (c:Cls X.K C) (hr:Room k X.A) (hx:zdw CX X Ek) (he:PE X o ta)
    (ht:eval (.Call (.Attribute o m apos) [] [] pos) X.env=(do
      let ov <- eval o X.env
      standAt apos.atName
      let (f,first) <- holding [ov] (getMethod ov m pl)
      callWith pos f first (backTo pos (starEach [] X.env)) (backToKw pos (keywordEach [] X.env))):=by rfl) :
    PE X (.Call (.Attribute o m apos) [] [] pos) (zmh C m sp dvs Ek ta tNil):=by
  obtain ⟨f,fd,F,hm,hb⟩:=D.ex
  intro pins s σ H Q I h
  refine PySem.W.methodCall_KW (pl:=pl) (thn (he pins s σ H _ I h) fun u s1 ⟨x,H1,I1,rx,a,dx,fs,ex,ea,l,q⟩=>?_) ht
  subst ex
  obtain rfl:u=Value.ref a:=rx
  refine zij I1 ea c hm l ?_
  exact PySem.W.callWith_K0 (first:=[.ref a]) I1.kIn hm.kp (zlk (us:=[.ref a]) (vs:=[.ref a]) F hr (hb _ hin) hx I1 (.cons rfl .nil) q)
theorem zkf {pins:List (Addr×Obj)} {σ:St} {H:Hp} {s:Shared} {Q:VK} {us:List Value} {vs:List V} (M:Mk X.K C f) (F:FnOk X.prog X.w X.K X.mg X.base CX k f fd ps sp) (hr:Room (k+1) X.A) (hb:BindsV X.K fd ps dvs)
    (hx:zdw CX X Ek) (I:Inv X pins σ H s) (r:Vals vs us)
    (h:∀ x dx,H x=none->H dx=none->dx≠x->sp (.ref x :: (vs++dvs)) (upd (upd H dx (.own x)) x (.ins C dx [])) (fun v H2=>v = .non/\Q (.ref x) H2) (fun v d H'=>Ek v d σ H')) :
    wpAny (model X.prog X.w) X.A (call (.ref C) us) (EP X pins σ Q) X.xe s:=by
  obtain ⟨ds,hd,hb⟩:=hb
  have hq:=h (s.heap.objs.size+1) s.heap.objs.size (I.hok.fresh (Nat.le_succ _)) (I.hok.fresh (Nat.le_refl _)) (Nat.ne_of_lt (Nat.lt_succ_self _))
  have I2:=Inv.made (C:=C) I
  have r2:Vals (V.ref (s.heap.objs.size+1) :: (vs++dvs)) (Value.ref (s.heap.objs.size+1) :: (us++ds)):=.cons rfl (r.append hd)
  have hl:(Value.ref (s.heap.objs.size+1) :: us++ds).length=ps.length:=by
    have e:=r2.length
    rw [F.len _ _ _ _ hq] at e
    exact e.symm
  refine wpAny_call (zpz (f:=f) I.kIn M.makes M.init (beq_iff_eq.mp M.fn) (codeAny_mono (F.run _ X.stack _ _ ⟨Value.ref (s.heap.objs.size+1) :: us,[]⟩ (Value.ref (s.heap.objs.size+1) :: (us++ds)) _ _ _ (hr.make C us [])
    (I2.env0.make C us []) (hb _ (Value.ref (s.heap.objs.size+1) :: us) I2.kIn hl) r2 hq) fun r s' hq'=>?_))
  cases r with
  | error e=>exact hx pins σ _ _ e s' I2 hq'
  | ok fl =>
    cases fl with
    | ret u =>
      obtain ⟨v,H',I3,rv,ev,q3⟩:=I2.after hq'
      subst ev
      exact ⟨rv,⟨V.ref (s.heap.objs.size+1),H',I3,rfl,q3⟩⟩
    | next=>exact False.elim hq'
    | brk=>exact False.elim hq'
    | cont=>exact False.elim hq'
theorem zfa (D:MkD X.prog X.w X.K X.mg X.base CX k C ps dss sp) (hin:dvs∈dss) (hr:Room (k+1) X.A) (hx:zdw CX X Ek) (hg:Gl X x) (hm:X.mg x=some (.ref C))
    (ha:PA X (e :: es) t) (hdb:(x == ("__debug__" : Str))=false:=by decide) (he:starEach (e :: es) X.env=(false,eval e X.env) :: starEach es X.env:=by rfl) (hpl:(backTo pos (starEach es X.env)).any (·.1)=false:=by rfl) :
    PE X (.Call (.Name x p) (e :: es) [] pos) (tMakeX C sp dvs Ek t):=by
  obtain ⟨f,fd,F,M,hb⟩:=D.ex
  intro pins s σ H Q I h
  refine wpAny_Call_Name_kw (zed I hg hm ?_ hdb)
  refine PySem.W.callWith_K (h₀:=X.base) I.ok.mod.kin M.kp (thn (ha pos pins s σ H _ I h) fun us s1 ⟨vs,H1,I1,r,q⟩=>⟨I1.kIn,?_⟩) he hpl
  exact zkf M F hr (hb _ hin) hx I1 r q
theorem zkg (D:MkD X.prog X.w X.K X.mg X.base CX k C ps dss sp) (hin:dvs∈dss) (hr:Room (k+1) X.A) (hx:zdw CX X Ek) (hg:Gl X x) (hm:X.mg x=some (.ref C))
    (hdb:(x == ("__debug__" : Str))=false:=by decide):PE X (.Call (.Name x p) [] [] pos) (tMakeX C sp dvs Ek tNil):=by
  obtain ⟨f,fd,F,M,hb⟩:=D.ex
  intro pins s σ H Q I h
  refine wpAny_Call_Name_kw (zed I hg hm ?_ hdb)
  exact PySem.W.callWith_K0 I.kIn M.kp (zkf (us:=[]) M F hr (hb _ hin) hx I .nil h)
end
section
variable {X:Cx}
end
end L2
namespace L2
open PySem PySem.Spec PyProof.Rows
def Itrs (lo c:Int) (n:Nat):It:=⟨fun i _=>i<n,fun i H x H'=>H'=H/\x = .int (lo+i*c),fun i _=>n<=i⟩
structure RngOk (i j c:Int) (n:Nat):Prop where
 nz:c≠0
 np:Builtin.divisionGoesByPylong (j-i) c=false
 sm:Builtin.Range.small i j c=true
 eq:(n:Int)=Builtin.Range.rangeSize i j c
def iRng3 (ta:TA):TI:=fun σ H R=>ta σ H fun vs H1=>∃ i j c n,vs = [.int i,.int j,.int c]/\RngOk i j c n/\R (Itrs i c n) H1
section
variable {X:Cx} {tg:Expr}
end
theorem zmi {wi:TI} {g:TG} {tb:TS} {D:Ends} {σ:St} {H:Hp} (h:∀ Z:It->Hp->Prop,(∀ J H1,(∃ W:Nat->Nat->St->Hp->Prop,(∃ m,W 0 m σ H1)/\∀ i m σ H,W i m σ H ->
 (J.stop i H/\D.nx σ H)\/(J.go i H/\∃ N:St->Hp->Prop,(∀ σ' H',N σ' H'->∃ m',m' < m/\W (i+1) m' σ' H')/\∀ x H',J.yld i H x H'->g x σ H' fun σ2 H2=>tb { D with nx:=N,ct:=N,bk:=D.nx } σ2 H2))->Z J H1)->wi σ H Z):tFor wi g tb D σ H:=h _ fun _ _ x=>x
section
variable {X:Cx}
end
end L2
namespace Sw
theorem q_cast_ne {d:Int} (h:d≠0):(d:Rat)≠0:=by
 intro z
 exact h (Rat.intCast_inj.mp (by rw [z]; rfl))
theorem ztz (q:Rat):(q.num:Rat) / ((q.den:Int):Rat)=q:=by
 rw [<- Rat.divInt_eq_div]; exact Rat.num_divInt_den q
theorem zov (q:Rat):0<(q.den:Int):=by
 have:=q.den_nz
 omega
theorem zqk (q:Rat):(q.den:Int)≠0:=by
 have:=q.den_nz
 omega
theorem q_num (q:Rat):(q.num:Rat)=q*((q.den:Int):Rat):=by
 have h:=ztz q
 have d:=q_cast_ne (zqk q)
 grind
theorem q_low (q:Rat):dv q.num q.den = 1:=by
 unfold dv
 have:=q.reduced
 unfold Nat.Coprime at this
 show ((Nat.gcd q.num.natAbs (q.den:Int).natAbs:Nat):Int) = 1
 rw [Int.natAbs_natCast,this]
 rfl
theorem q_fr (q:Rat):Fr q.num q.den:=⟨zov q,q_low q⟩
theorem fr_q {n d:Int} (f:Fr n d):((n:Rat) / (d:Rat)).num=n/\((((n:Rat) / (d:Rat)).den:Nat):Int)=d:=by
 have hd:d≠0:=by have:=f.pos; omega
 refine Fr.uniq (q_fr _) f ?_
 have h:=q_num ((n:Rat) / (d:Rat))
 generalize hq:(n:Rat) / (d:Rat)=q at h ⊢
 have e:(n:Rat)=q*d:=by have:=q_cast_ne hd; grind
 have:((q.num*d:Int):Rat)=((n*(q.den:Int):Int):Rat):=by
  rw [Rat.intCast_mul,Rat.intCast_mul]
  grind
 exact Rat.intCast_inj.mp this
end Sw
namespace L2
def fq (q:Rat):List V:=[.int q.num,.int (q.den:Int)]
theorem zua {t b:Int} (hb:b≠0):f2 (Sw.nrm (t,b))=fq ((t:Rat) / (b:Rat)):=by
 have f:=Sw.nrm_fr (q:=(t,b)) hb
 have c:=Sw.nrm_cross (q:=(t,b)) hb
 have e:((Sw.nrm (t,b)).1:Rat) / ((Sw.nrm (t,b)).2:Rat)=(t:Rat) / (b:Rat):=by
  have h1:=Sw.q_cast_ne hb
  have h2:(((Sw.nrm (t,b)).2:Int):Rat)≠0:=Sw.q_cast_ne (by have:=f.pos; omega)
  have c':(((Sw.nrm (t,b)).1*b:Int):Rat)=(((Sw.nrm (t,b)).2*t:Int):Rat):=by rw [c]
  rw [Rat.intCast_mul,Rat.intCast_mul] at c'
  grind
 have g:=Sw.fr_q f
 rw [e] at g
 unfold f2 fq
 rw [g.1,g.2]
end L2
namespace Sw
end Sw
namespace L2
open PySem PySem.Spec PyProof.Rows
def But (p:Addr) (H H':Hp):Prop:=∀ b o,b≠p->H b=some o->H' b=some o
theorem Same.but {p:Addr} {H H':Hp} (h:Same H H'):But p H H':=fun b o _ e=>h b o e
theorem But.trans {p:Addr} {H H1 H2:Hp} (a:But p H H1) (b:But p H1 H2):But p H H2:=fun c o n h=>b c o n (a c o n h)
theorem zgg {p:Addr} {H:Hp} {o:HO}:But p H (upd H p o):=fun b u n e=>by rw [zah n]; exact e
theorem zal:∀ {fs:List (Str×V)} {f:Str} {v:V},(putF f v fs).length<=fs.length+1
 | [],f,v=>Nat.le_refl _
 | (g,x) :: r,f,v=>by
  unfold putF
  by_cases e:g=f
  ·rw [if_pos e]; exact Nat.le_succ _
  ·rw [if_neg e]
   show (putF f v r).length+1<=r.length+1+1
   have:=zal (fs:=r) (f:=f) (v:=v)
   omega
structure FB (fs:List (Str×V)) (d:Int) (pr:Addr) (s:Int) (pl:Addr):Prop where
 dep:fs.lookup ("depth" : Str)=some (.int d)
 rat:fs.lookup ("rate" : Str)=some (.ref pr)
 sin:fs.lookup ("since" : Str)=some (.int s)
 lef:fs.lookup ("left" : Str)=some (.ref pl)
 no:∀ m:Str,¬ m = "depth" -> ¬ m = "rate" -> ¬ m = "since" -> ¬ m = "left" -> fs.lookup m=none
 len:fs.length<900
structure Bk (C:Addr) (H:Hp) (p:Addr) (d:Int) (r:Rat) (s:Int) (l:Rat):Prop where
 ex:∃ dx fs pr pl,H p=some (.ins C dx fs)/\FB fs d pr s pl/\H pr=some (.tup (fq r))/\H pl=some (.tup (fq l))
end L2
namespace L2
open PySem PySem.Spec PyProof.Rows
def rFld (K:PySem.W.Frag) (f:Str) (x:V) (H:Hp) (Q:VK):Prop:=∃ a C dx fs v,x = .ref a/\H a=some (.ins C dx fs)/\Cls K C/\NoAttr K C f/\fs.lookup f=some v/\Q v H
theorem tFld_eq {K:PySem.W.Frag} {ta:TE} {f:Str} {σ:St} {H:Hp} {Q:VK}:tFld K ta f σ H Q=ta σ H fun x H1=>rFld K f x H1 Q:=rfl
theorem zbh {K:PySem.W.Frag} {f:Str} {a C dx:Addr} {fs:List (Str×V)} {v:V} {H:Hp} {Q:VK} (h:H a=some (.ins C dx fs)) (c:Cls K C) (n:NoAttr K C f) (l:fs.lookup f=some v) (q:Q v H):rFld K f (.ref a) H Q:=⟨a,C,dx,fs,v,rfl,h,c,n,l,q⟩
def rSet (K:PySem.W.Frag) (f:Str) (y x:V) (H:Hp) (Z:Hp->Prop):Prop:=∃ a C dx fs,x = .ref a/\H a=some (.ins C dx fs)/\Cls K C/\NoAttr K C f/\fs.length<1000/\Z (upd H a (.ins C dx (putF f y fs)))
theorem sFld_eq {K:PySem.W.Frag} {ta tv:TE} {f:Str} {D:Ends} {σ:St} {H:Hp}:sFld K ta tv f D σ H=tv σ H fun y H1=>ta σ H1 fun x H2=>rSet K f y x H2 (D.nx σ):=rfl
theorem zck {K:PySem.W.Frag} {f:Str} {y:V} {a C dx:Addr} {fs:List (Str×V)} {H:Hp} {Z:Hp->Prop} (h:H a=some (.ins C dx fs)) (c:Cls K C) (n:NoAttr K C f) (l:fs.length<1000) (q:Z (upd H a (.ins C dx (putF f y fs)))):rSet K f y (.ref a) H Z:=⟨a,C,dx,fs,rfl,h,c,n,l,q⟩
def rMeth (C:Addr) (m:Str) (x:V) (H:Hp) (Z:Prop):Prop:=∃ a dx fs,x = .ref a/\H a=some (.ins C dx fs)/\fs.lookup m=none/\Z
theorem tMethX_eq {C:Addr} {m:Str} {sp:Sp} {dvs:List V} {Ek:XH} {ta:TE} {t:TA} {σ:St} {H:Hp} {Q:VK} :
    zmh C m sp dvs Ek ta t σ H Q=ta σ H fun x H1=>rMeth C m x H1 (t σ H1 fun vs H2=>sp (x :: (vs++dvs)) H2 Q (fun v d H'=>Ek v d σ H')):=by
  unfold zmh rMeth
  rfl
theorem zbp {C:Addr} {m:Str} {a dx:Addr} {fs:List (Str×V)} {H:Hp} {Z:Prop} (h:H a=some (.ins C dx fs)) (l:fs.lookup m=none) (z:Z):rMeth C m (.ref a) H Z:=⟨a,dx,fs,rfl,h,l,z⟩
theorem zcy {H:Hp} {x dx C:Addr} (h1:H x=none) (h2:H dx=none):Same H (upd (upd H dx (.own x)) x (.ins C dx [])):=fun b o e=>by
 rw [zah (zan e h1),zah (zan e h2)]
 exact e
theorem But.same {x:Addr} {H H1 H':Hp} (b:But x H1 H') (s:Same H H1) (h:H x=none):Same H H':=fun c o e=>b c o (zan e h) (s c o e)
end L2
namespace L2
open PySem PySem.Spec PyProof.Rows
theorem zje {t:TS} {D:Ends} {σ:St} {H:Hp} (h:∀ R:St->Hp->Prop,(∀ σ H,D.nx σ H->R σ H)->t { D with nx:=R } σ H):t D σ H:=h D.nx fun _ _ x=>x
end L2
namespace L2
open PySem PySem.Spec PyProof.Rows
end L2
namespace Sw
end Sw
namespace L2
open PySem PySem.Spec PyProof.Rows
end L2
namespace L2
open PySem PySem.Spec PyProof.Rows
section
variable {κ:Type} [DecidableEq κ]
def valV (kvs:List (κ×V)) (k:κ):Option V:=(kvs.find? fun kv=>decide (kv.1=k)).map (·.2)
def putK (kvs:List (κ×V)) (k:κ) (v:V):List (κ×V) :=
 if (kvs.any fun kv=>decide (kv.1=k))=true then kvs.map (fun kv=>if kv.1=k then (kv.1,v) else kv) else kvs++[(k,v)]
def dropK (kvs:List (κ×V)) (k:κ):List (κ×V):=kvs.filter fun kv=>decide (kv.1≠k)
theorem zdh {p:κ×V} {r:List (κ×V)} {k:κ} (e:p.1=k):valV (p :: r) k=some p.2:=by simp [valV,List.find?_cons,e]
theorem zdi {p:κ×V} {r:List (κ×V)} {k:κ} (e:¬ p.1=k):valV (p :: r) k=valV r k:=by simp [valV,List.find?_cons,e]
theorem zel (k:κ):∀ kvs:List (κ×V),(kvs.any fun kv=>decide (kv.1=k))=(valV kvs k).isSome
 | []=>rfl
 | p :: r=>by
  rw [List.any_cons]
  by_cases e:p.1=k
  ·simp only [zdh e,decide_eq_true e,Bool.true_or,Option.isSome_some]
  ·rw [zdi e,decide_eq_false e,Bool.false_or]; exact zel k r
theorem zmj (k j:κ) (y:V):∀ kvs:List (κ×V),valV (kvs.map fun kv=>if kv.1=k then (kv.1,y) else kv) j=(valV kvs j).map fun x=>if j=k then y else x
 | []=>rfl
 | p :: r=>by
  have ih:=zmj k j y r
  rw [List.map_cons]
  by_cases h:p.1=k
  ·rw [if_pos h]
   by_cases e:p.1=j
   ·rw [zdh (p:=(p.1,y)) e,zdh e,Option.map_some,if_pos (e.symm.trans h)]
   ·rw [zdi (p:=(p.1,y)) e,zdi e,ih]
  ·rw [if_neg h]
   by_cases e:p.1=j
   ·rw [zdh (p:=p) e,zdh e,Option.map_some,if_neg (fun z=>h (e.trans z))]
   ·rw [zdi (p:=p) e,zdi e,ih]
theorem zkh (k j:κ) (y:V):∀ kvs:List (κ×V),valV kvs k=none->valV (kvs++[(k,y)]) j=if j=k then some y else valV kvs j
 | [],_=>by
  by_cases e:k=j
  ·rw [if_pos e.symm]; exact zdh (p:=(k,y)) e
  ·rw [if_neg (fun z=>e z.symm)]; exact zdi (p:=(k,y)) e
 | p :: r,hn=>by
  rw [List.cons_append]
  have hk:¬ p.1=k:=fun z=>by rw [zdh z] at hn; cases hn
  rw [zdi hk] at hn
  have ih:=zkh k j y r hn
  by_cases e:p.1=j
  ·rw [zdh e,zdh e,if_neg (fun z=>hk (e.trans z))]
  ·rw [zdi e,zdi e,ih]
theorem zql (kvs:List (κ×V)) (k j:κ) (y:V):valV (putK kvs k y) j=if j=k then some y else valV kvs j:=by
 unfold putK
 by_cases a:(kvs.any fun kv=>decide (kv.1=k))=true
 ·rw [if_pos a,zmj]
  rw [zel] at a
  by_cases e:j=k
  ·obtain ⟨x,hx⟩:=Option.isSome_iff_exists.mp a
   rw [if_pos e,e,hx,Option.map_some,if_pos rfl]
  ·rw [if_neg e]
   cases valV kvs j with
   | none=>rfl
   | some x=>rw [Option.map_some,if_neg e]
 ·rw [if_neg a]
  refine zkh k j y kvs ?_
  rw [zel] at a
  cases q:valV kvs k with
  | none=>rfl
  | some x=>rw [q] at a; exact (a rfl).elim
theorem zdx (kvs:List (κ×V)) (k:κ) (v:V):(putK kvs k v).length<=kvs.length+1:=by
 unfold putK
 split
 ·rw [List.length_map]; omega
 ·rw [List.length_append,List.length_cons,List.length_nil]; omega
theorem RelO.isSome_eq {o:Option V} {u:Option Value} (r:RelO o u):o.isSome=u.isSome:=by
 cases o with
 | none=>cases u with
  | none=>rfl
  | some _=>exact (show False from r).elim
 | some _=>cases u with
  | none=>exact (show False from r).elim
  | some _=>rfl
theorem KV.val {kvs:List (κ×V)} {vs:List (κ×Value)} (r:KV kvs vs) (k:κ):RelO (valV kvs k) (valueAt vs k):=by
 unfold KV at r
 induction r with
 | nil=>exact True.intro
 | @cons p q ps qs h t ih =>
  obtain ⟨h1,h2⟩:=h
  by_cases e:p.1=k
  ·have e':q.1=k:=h1.symm.trans e
   have b:valueAt (q :: qs) k=some q.2:=by simp [valueAt,List.find?_cons,e']
   rw [zdh e,b]; exact h2
  ·have e':¬ q.1=k:=fun z=>e (h1.trans z)
   have b:valueAt (q :: qs) k=valueAt qs k:=by simp [valueAt,List.find?_cons,e']
   rw [zdi e,b]; exact ih
theorem KV.any {kvs:List (κ×V)} {vs:List (κ×Value)} (r:KV kvs vs) (k:κ):(kvs.any fun kv=>decide (kv.1=k))=vs.any fun kv=>decide (kv.1=k):=by
 unfold KV at r
 induction r with
 | nil=>rfl
 | cons h t ih=>rw [List.any_cons,List.any_cons,ih,h.1]
theorem KV.repl {kvs:List (κ×V)} {vs:List (κ×Value)} (r:KV kvs vs) (k:κ) {y:V} {u:Value} (ry:RelV y u) :
    KV (kvs.map fun kv=>if kv.1=k then (kv.1,y) else kv) (vs.map fun kv=>if kv.1=k then (kv.1,u) else kv):=by
  unfold KV at r ⊢
  induction r with
  | nil=>exact .nil
  | @cons p q ps qs h t ih =>
    rw [List.map_cons,List.map_cons]
    refine .cons ?_ ih
    obtain ⟨h1,h2⟩:=h
    by_cases e:p.1=k
    · rw [if_pos e,if_pos (h1.symm.trans e)]; exact ⟨h1,ry⟩
    · rw [if_neg e,if_neg (fun z=>e (h1.trans z))]; exact ⟨h1,h2⟩
theorem KV.put {kvs:List (κ×V)} {vs:List (κ×Value)} (r:KV kvs vs) (k:κ) {y:V} {u:Value} (ry:RelV y u):KV (putK kvs k y) (stored vs k u):=by
 unfold putK stored
 rw [r.any k]
 by_cases e:(vs.any fun kv=>decide (kv.1=k))=true
 ·rw [if_pos e,if_pos e]; exact r.repl k ry
 ·rw [if_neg e,if_neg e]; exact Paired.snoc r ⟨rfl,ry⟩
theorem KV.length {kvs:List (κ×V)} {vs:List (κ×Value)} (r:KV kvs vs):kvs.length=vs.length:=Paired.length r
end
theorem kV_is {P:Program} {w:World} {k:Key} {u:Value} (r:RelV (kV k) u):(zbe P w).is k u=true:=by
 cases k with
 | inl i=>obtain ⟨t,e⟩:=(show ∃ t,u=Value.int i t from r); subst e; exact zkx P w i t
 | inr x=>obtain ⟨t,e⟩:=(show ∃ t,u=Value.str x t from r); subst e; exact zky P w x t
theorem zki {P:Program} {w:World}:∀ {ks:List Key} {us:List Value},Vals (ks.map kV) us->ItemsAre (zbe P w) ks us
 | [],_,r=>by rw [List.map_nil] at r; cases r; exact .nil
 | k :: ks,_,r=>by
  rw [List.map_cons] at r
  cases r with
  | cons h t=>exact .cons (kV_is h) (zki t)
abbrev KT (H:Hp):List (List Key×V)->List (List Key×Addr×Value)->Prop:=Paired fun p q=>p.1=q.1/\H q.2.1=some (.tup (p.1.map kV))/\RelV p.2 q.2.2
theorem KT.val {H:Hp} {kvs:List (List Key×V)} {xs:List (List Key×Addr×Value)} (r:KT H kvs xs) (k:List Key):RelO (valV kvs k) ((atKey xs k).map (·.2)):=by
 induction r with
 | nil=>exact True.intro
 | @cons p q ps qs h t ih =>
  obtain ⟨h1,_,h2⟩:=h
  by_cases e:p.1=k
  ·have e':q.1=k:=h1.symm.trans e
   have b:atKey (q :: qs) k=some q.2:=by simp [atKey,List.find?_cons,e']
   rw [zdh e,b]; exact h2
  ·have e':¬ q.1=k:=fun z=>e (h1.trans z)
   have b:atKey (q :: qs) k=atKey qs k:=by simp [atKey,List.find?_cons,e']
   rw [zdi e,b]; exact ih
theorem KT.repl {H:Hp} {kvs:List (List Key×V)} {xs:List (List Key×Addr×Value)} (r:KT H kvs xs) (k:List Key) {y:V} {u:Value} (ry:RelV y u) :
    KT H (kvs.map fun kv=>if kv.1=k then (kv.1,y) else kv) (xs.map (putAt k u)):=by
  induction r with
  | nil=>exact .nil
  | @cons p q ps qs h t ih =>
    rw [List.map_cons,List.map_cons]
    refine .cons ?_ ih
    obtain ⟨h1,h2,h3⟩:=h
    unfold putAt
    by_cases e:p.1=k
    · rw [if_pos e,if_pos (h1.symm.trans e)]; exact ⟨h1,h2,ry⟩
    · rw [if_neg e,if_neg (fun z=>e (h1.trans z))]; exact ⟨h1,h2,h3⟩
theorem KT.put {H:Hp} {kvs:List (List Key×V)} {xs:List (List Key×Addr×Value)} (r:KT H kvs xs) (k:List Key) {b:Addr} {y:V} {u:Value} (hb:H b=some (.tup (k.map kV))) (ry:RelV y u) :
    KT H (putK kvs k y) (storedH xs k b u):=by
  have e:(kvs.any fun kv=>decide (kv.1=k))=(atKey xs k).isSome:=by
    rw [zel,(r.val k).isSome_eq,Option.isSome_map]
  unfold putK storedH
  rw [e]
  by_cases q:(atKey xs k).isSome=true
  · rw [if_pos q,if_pos q]; exact r.repl k ry
  · rw [if_neg q,if_neg q]; exact Paired.snoc r ⟨rfl,hb,ry⟩
theorem KT.keeps {H H':Hp} {kvs:List (List Key×V)} {xs:List (List Key×Addr×Value)} (r:KT H kvs xs) (ht:∀ b ys,H b=some (.tup ys)->H' b=some (.tup ys)):KT H' kvs xs :=
 Paired.mapP r fun _ _ z=>⟨z.1,ht _ _ z.2.1,z.2.2⟩
section
variable {P:Program} {w:World} {H:Hp} {h:Heap} {a:Addr}
theorem rd_of {u:HO} (ok:HOk P w H h) (e:Rd H a u):ObjOk P w H h a u:=e.ok ok
theorem dk_rd {kvs:List (Key×V)} (ok:HOk P w H h) (e:Rd H a (.dK kvs)):kvs.length<=sizeLine/\(a == sysModules)=false/\∃ vs,KV kvs vs/\h.DictOf (zbe P w) a vs :=
 show ObjOk P w H h a (.dK kvs) from rd_of ok e
theorem dk_of {kvs:List (Key×V)} (ok:HOk P w H h) (e:H a=some (.dK kvs)):kvs.length<=sizeLine/\(a == sysModules)=false/\∃ vs,KV kvs vs/\h.DictOf (zbe P w) a vs:=dk_rd ok (.inl e)
theorem zkj {ks:List Key} (ok:HOk P w H h) (e:H a=some (.tup (ks.map kV))):(tupleKind (zbe P w)).is h ks a:=by
 obtain ⟨_,its,r,o,h1,h2,n,h3⟩:=(show ObjOk P w H h a (.tup (ks.map kV)) from ok a _ e)
 exact ⟨o,its.toArray,n,h1,h2,h3,by simpa using zki r⟩
theorem dt_rd {kvs:List (List Key×V)} (ok:HOk P w H h) (e:Rd H a (.dT kvs)):kvs.length<=sizeLine/\(a == sysModules)=false /\
    ∃ xs,KT H kvs xs/\h.DictOfH (tupleKind (zbe P w)) a xs:=by
  obtain ⟨z,y,xs,r,o,es,ep,h1,h2,h3,h4,h5⟩:=(show ObjOk P w H h a (.dT kvs) from rd_of ok e)
  refine ⟨z,y,xs,r,o,es,ep,h1,h2,h3,h4,fun x hx=>?_,h5⟩
  have all:∀ {l:List (List Key×V)} {m:List (List Key×Addr×Value)},KT H l m->∀ x∈m,(tupleKind (zbe P w)).is h x.1 x.2.1:=by
    intro l m q
    induction q with
    | nil=>intro x hx; exact nomatch hx
    | @cons p q ps qs hq t ih =>
      intro x hx
      rcases List.mem_cons.mp hx with e | hx
      · subst e
        exact zkj ok (by rw [<- hq.1]; exact hq.2.1)
      · exact ih x hx
  exact all r x hx
theorem dt_of {kvs:List (List Key×V)} (ok:HOk P w H h) (e:H a=some (.dT kvs)):kvs.length<=sizeLine/\(a == sysModules)=false /\
    ∃ xs,KT H kvs xs/\h.DictOfH (tupleKind (zbe P w)) a xs:=dt_rd ok (.inl e)
end
def DGet (H:Hp) (a:Addr) (y:V) (r:Option V):Prop :=
 (∃ kvs k,Rd H a (.dK kvs)/\y=kV k/\r=valV kvs k)\/∃ kvs k b,Rd H a (.dT kvs)/\y = .ref b/\H b=some (.tup (k.map kV))/\r=valV kvs k
def DPut (H:Hp) (a:Addr) (y v:V) (H':Hp):Prop :=
 (∃ kvs k,H a=some (.dK kvs)/\y=kV k/\kvs.length<sizeLine/\H'=upd H a (.dK (putK kvs k v))) \/
 ∃ kvs k b,H a=some (.dT kvs)/\y = .ref b/\H b=some (.tup (k.map kV))/\kvs.length<sizeLine/\H'=upd H a (.dT (putK kvs k v))
theorem DGet.k {H:Hp} {a:Addr} {kvs:List (Key×V)} {k:Key} (e:H a=some (.dK kvs)):DGet H a (kV k) (valV kvs k):=.inl ⟨kvs,k,.inl e,rfl,rfl⟩
theorem DPut.k {H:Hp} {a:Addr} {kvs:List (Key×V)} {k:Key} {v:V} (e:H a=some (.dK kvs)) (hl:kvs.length<sizeLine):DPut H a (kV k) v (upd H a (.dK (putK kvs k v))):=.inl ⟨kvs,k,e,rfl,hl,rfl⟩
section
variable {X:Cx} {pins:List (Addr×Obj)} {σ:St} {H:Hp} {s:Shared} {a:Addr} {y v:V} {u r:Value} {o:Option V} {A:Around} {E:Value->Shared->Prop}
theorem Inv.big (I:Inv X pins σ H s):sysModules<s.heap.objs.size:=by
 have h:mainGlobals<s.heap.objs.size:=(I.mod.glob.keeps I.bk).lt
 exact Nat.lt_trans (by decide) h
theorem zow {Q:Value->Shared->Prop} (hu:A.units+1<cLine) (I:Inv X pins σ H s) (g:DGet H a y (some v)) (ry:RelV y u) (h:∀ w' s',Inv X pins σ H s'->RelV v w'->Q w' s') :
    wpAny (model X.prog X.w) A (getItem (.ref a) u) Q E s:=by
  rcases g with ⟨kvs,k,e,ey,l⟩ | ⟨kvs,k,b,e,ey,eb,l⟩
  · subst ey
    obtain ⟨z,hd,vs,rel,dd⟩:=dk_rd I.hok e
    obtain ⟨w',hw,rw'⟩:=RelO.some_of (v:=v) (o:=valueAt vs k) (by rw [l]; exact rel.val k)
    exact wpAny_getItem_of (kV_is ry) dd.mapOf hw (h w' _ (I.tok _) rw')
  · subst ey
    cases (show u=Value.ref b from ry)
    obtain ⟨z,hd,xs,rel,dd⟩:=dt_rd I.hok e
    obtain ⟨w',hw,rw'⟩:=RelO.some_of (v:=v) (o:=(atKey xs k).map (·.2)) (by rw [l]; exact rel.val k)
    obtain ⟨p,hp,hp2⟩:=Option.map_eq_some_iff.mp hw
    refine wpAny_getItem_heap (tupleKind_room_in1 hu) (zkj I.hok eb) dd hp ?_
    rw [hp2]
    exact h w' _ (I.tok _) rw'
theorem d_in {Q:Value->Shared->Prop} (hu:A.units+1<cLine) (I:Inv X pins σ H s) (g:DGet H a y o) (ry:RelV y u) (h:∀ s',Inv X pins σ H s'->Q (.bool o.isSome) s') :
    wpAny (model X.prog X.w) A (compareOp .In u (.ref a)) Q E s:=by
  rcases g with ⟨kvs,k,e,ey,l⟩ | ⟨kvs,k,b,e,ey,eb,l⟩
  · subst ey
    obtain ⟨z,hd,vs,rel,dd⟩:=dk_rd I.hok e
    refine wpAny_in_of (kV_is ry) hd dd.mapOf ?_
    rw [<- (rel.val k).isSome_eq,<- l]
    exact h _ (I.tok _)
  · subst ey
    cases (show u=Value.ref b from ry)
    obtain ⟨z,hd,xs,rel,dd⟩:=dt_rd I.hok e
    refine wpAny_in_heap (tupleKind_room_in1 hu) (zkj I.hok eb) hd dd ?_
    have q:=(rel.val k).isSome_eq
    rw [Option.isSome_map] at q
    rw [<- q,<- l]
    exact h _ (I.tok _)
theorem zsd {Q:Value->Shared->Prop} (hu:A.units+1<cLine) (I:Inv X pins σ H s) (g:DGet H a y o) (ry:RelV y u) (h:∀ s',Inv X pins σ H s'->Q (.bool (!o.isSome)) s') :
    wpAny (model X.prog X.w) A (compareOp .NotIn u (.ref a)) Q E s:=by
  rcases g with ⟨kvs,k,e,ey,l⟩ | ⟨kvs,k,b,e,ey,eb,l⟩
  · subst ey
    obtain ⟨z,hd,vs,rel,dd⟩:=dk_rd I.hok e
    refine wpAny_notIn_of (kV_is ry) hd dd.mapOf ?_
    rw [<- (rel.val k).isSome_eq,<- l]
    exact h _ (I.tok _)
  · subst ey
    cases (show u=Value.ref b from ry)
    obtain ⟨z,hd,xs,rel,dd⟩:=dt_rd I.hok e
    refine wpAny_notIn_heap (tupleKind_room_in1 hu) (zkj I.hok eb) hd dd ?_
    have q:=(rel.val k).isSome_eq
    rw [Option.isSome_map] at q
    rw [<- q,<- l]
    exact h _ (I.tok _)
theorem zll {h':Heap} {t':Nat} {ob:HO} (I:Inv X pins σ H s) (mu:Mut (H a)) (hs:Heap.SameBut a s.heap h') (he:∃ q,h'.get? a=some q) (new:ObjOk X.prog X.w (upd H a ob) h' a ob) :
    Inv X pins σ (upd H a ob) { s with heap:=h',toks:=t' } :=
  I.write (x:=a) (e:=a) mu (.inl rfl) (fun b q hb z=>(hs.2 b hb).trans z) he new
theorem zrm {P:Program} {w:World} {H':Hp} {h':Heap} {kvs:List (Key×V)} {vs:List (Key×Value)} (z:kvs.length<=sizeLine) (hd:(a == sysModules)=false) (rel:KV kvs vs) (dd:h'.DictOf (zbe P w) a vs) :
    ObjOk P w H' h' a (.dK kvs):=⟨z,hd,vs,rel,dd⟩
theorem zox {H':Hp} {Q:Unit->Shared->Prop} (hu:A.units+1<cLine) (I:Inv X pins σ H s) (g:DPut H a y v H') (ry:RelV y u) (rv:RelV v r) (h:∀ s',Inv X pins σ H' s'->Q () s') :
    wpAny (model X.prog X.w) A (setItem (.ref a) u r) Q E s:=by
  rcases g with ⟨kvs,k,e,ey,l,eH⟩ | ⟨kvs,k,b,e,ey,eb,l,eH⟩
  · subst ey eH
    obtain ⟨z,hd,vs,rel,dd⟩:=dk_of I.hok e
    have hz:vs.length<=sizeLine:=by rw [<- rel.length]; exact z
    have hl:(putK kvs k v).length<=sizeLine:=by have:=zdx kvs k v; omega
    refine wpAny_setItem_pairs (hsz:=hz) (kV_is ry) dd fun h' dd' hs=>h _ ?_
    have he:∃ q,h'.get? a=some q:=let ⟨q,_,_,hq,_⟩:=dd'; ⟨q,hq⟩
    exact zll I (by rw [e]; exact True.intro) hs he (zrm hl hd (rel.put k rv) dd')
  · subst ey eH
    cases (show u=Value.ref b from ry)
    obtain ⟨z,hd,xs,rel,dd⟩:=dt_of I.hok e
    have hz:xs.length<=sizeLine:=by rw [<- Paired.length rel]; exact z
    have hl:(putK kvs k v).length<=sizeLine:=by have:=zdx kvs k v; omega
    refine wpAny_setItem_heap (hsz:=hz) (tupleKind_room_in1 hu) (zkj I.hok eb) dd fun h' dd' hs=>h _ ?_
    obtain ⟨q,es,ep,hq,h2,h3,h4,_,h5⟩:=dd'
    refine zll I (by rw [e]; exact True.intro) hs ⟨q,hq⟩ ⟨hl,hd,_,(rel.put k eb rv).keeps fun c ys ec=>?_,q,es,ep,hq,h2,h3,h4,h5⟩
    rw [zah (ne_of ec e (fun z=>nomatch z))]
    exact ec
end
section
variable {X:Cx} {pins:List (Addr×Obj)} {σ:St} {H:Hp} {s:Shared} {a:Addr} {kvs:List (Key×V)} {k:Key} {u:Value} {A:Around} {E:Value->Shared->Prop}
end
def NoSl (i:Expr):Prop:=∀ ov iv,subscripted i false ov iv=operate [ov,iv] (getItem ov iv)
theorem zse {prog:Program} {w:World} {A:Around} {E:Value->Shared->Prop} {s:Shared} {env:Env} {value slice:Expr} {pos:Pos} {T id:String} {Q:Value->Shared->Prop}
    (hl:typeLookup (.type T) "__getitem__" = pure (some (.builtin id))) (hs:NoSl slice)
    (h:wpAny (model prog w) A (eval value env) (fun o s₁=>wpAny (model prog w) A (eval slice env) (fun i s₂=>s₂.TypeIs o T/\wpAny (model prog w) A (getItem o i) Q E s₂) E s₁) E s) :
    wpAny (model prog w) A (eval (.Subscript value slice pos) env) Q E s:=by
  refine Subscript_ (wpAny_mono h (fun o s₁ h₁=>wpAny_mono h₁ (fun i s₂ h₂=>?_) fun _ _ x=>x) fun _ _ x=>x)
  obtain ⟨hT,h₂⟩:=h₂
  unfold subscriptTail
  refine wpAny_bind ?_
  rw [getitemInPython_of_ne hT.not_modules]
  refine wpAny_bind (wpAny_specialOf hT hl ?_)
  have fin:wpAny (model prog w) A (subscripted slice false o i) (fun r s₃=>wpAny (model prog w) A (letTemporaryGo value o r >>= fun _=>pure r) Q E s₃) E s₂:=by
    rw [hs o i]
    exact wpAny_operating (wpAny_mono h₂ (fun r s₃ h₃=>wpAny_bind (wpAny_letTemporaryGo (wpAny_pure h₃))) fun _ _ x=>x)
  first
    | exact wpAny_pure (wpAny_bind fin)
    | exact wpAny_bind (wpAny_pure (wpAny_bind fin))
    | exact wpAny_bind fin
theorem zlm {X:Cx} {pins:List (Addr×Obj)} {σ:St} {H:Hp} {s:Shared} {a:Addr} {y:V} {o:Option V} (I:Inv X pins σ H s) (g:DGet H a y o):s.TypeIs (.ref a) "dict" := by
 rcases g with ⟨kvs,k,e,_,_⟩ | ⟨kvs,k,b,e,_,_,_⟩
 ·obtain ⟨_,_,vs,_,dd⟩:=dk_rd I.hok e
  exact dd.typeIs
 ·obtain ⟨_,_,xs,_,dd⟩:=dt_rd I.hok e
  exact dd.typeIs
def tDGet (td ty:TE):TE:=fun σ H Q=>td σ H fun x H1=>ty σ H1 fun y H2=>∃ a v,x = .ref a/\DGet H2 a y (some v)/\Q v H2
def tDIn (ty td:TE):TE:=fun σ H Q=>ty σ H fun y H1=>td σ H1 fun x H2=>∃ a o,x = .ref a/\DGet H2 a y o/\Q (.bl o.isSome) H2
def tDNotIn (ty td:TE):TE:=fun σ H Q=>ty σ H fun y H1=>td σ H1 fun x H2=>∃ a o,x = .ref a/\DGet H2 a y o/\Q (.bl (!o.isSome)) H2
def sDPut (td ty tv:TE):TS:=fun D σ H=>tv σ H fun v H1=>td σ H1 fun x H2=>ty σ H2 fun y H3=>∃ a H4,x = .ref a/\DPut H3 a y v H4/\D.nx σ H4
section
variable {X:Cx} {o i e value:Expr} {pos pos' tpos:Pos} {td ty tv:TE}
theorem zem (hu:X.A.units+1<cLine) (ho:PE X o td) (hi:PE X i ty) (hs:NoSl i):PE X (.Subscript o i pos) (tDGet td ty):=by
 intro pins s σ H Q I h
 refine zse PySem.F.slot_dict_getitem.lookup hs (thn (ho pins s σ H _ I h) fun u s1 ⟨x,H1,I1,rx,q1⟩=>thn (hi pins s1 σ H1 _ I1 q1) fun iv s2 ⟨y,H2,I2,ry,a,v,ex,g,q2⟩=>?_)
 subst ex
 obtain rfl:u=Value.ref a:=rx
 exact ⟨zlm I2 g,zow hu I2 g ry fun w' s3 I3 rw'=>⟨v,H2,I3,rw',q2⟩⟩
theorem zmk (hu:X.A.units+1<cLine) (hi:PE X i ty) (ho:PE X o td):PC X .In i o (tDIn ty td):=by
 intro pins s σ H Q I h
 refine thn (hi pins s σ H _ I h) fun iv s1 ⟨y,H1,I1,ry,q1⟩=>thn (ho pins s1 σ H1 _ I1 q1) fun u s2 ⟨x,H2,I2,rx,a,ov,ex,g,q2⟩=>?_
 subst ex
 obtain rfl:u=Value.ref a:=rx
 exact d_in hu I2 g ry fun s3 I3=>⟨.bl ov.isSome,H2,I3,rfl,q2⟩
theorem zft (hu:X.A.units+1<cLine) (hi:PE X i ty) (ho:PE X o td):PC X .NotIn i o (tDNotIn ty td):=by
 intro pins s σ H Q I h
 refine thn (hi pins s σ H _ I h) fun iv s1 ⟨y,H1,I1,ry,q1⟩=>thn (ho pins s1 σ H1 _ I1 q1) fun u s2 ⟨x,H2,I2,rx,a,ov,ex,g,q2⟩=>?_
 subst ex
 obtain rfl:u=Value.ref a:=rx
 exact zsd hu I2 g ry fun s3 I3=>⟨.bl (!ov.isSome),H2,I3,rfl,q2⟩
theorem zgh (hu:X.A.units+1<cLine) (ho:PE X o td) (hi:PE X i ty) (hv:PE X value tv) (hs:swapsWith value (some (.Subscript o i pos')) pos.line X.env=pure false) :
    PS X (.Assign [.Subscript o i pos'] value pos) (sDPut td ty tv):=by
  intro pins s σ H D I h
  refine wpAny_Assign_Subscript (thn (hv pins s σ H _ I h) fun r s1 ⟨v,H1,I1,rv,q1⟩=>thn (ho pins s1 σ H1 _ I1 q1) fun u s2 ⟨x,H2,I2,rx,q2⟩=>thn (hi pins s2 σ H2 _ I2 q2) fun iv s3 ⟨y,H3,I3,ry,a,H4,ex,g,q3⟩=>?_) hs
  subst ex
  obtain rfl:u=Value.ref a:=rx
  exact zox hu I3 g ry rv fun s4 I4=>⟨σ,H4,I4,q3⟩
end
theorem zml {P:Program} {w:World} {H:Hp} (h:Heap) (hb:sysModules<h.objs.size):ObjOk P w H (h.push { cls:=.type "dict", data:=.dict #[] }) h.objs.size (.dK []) :=
 ⟨Nat.zero_le _,beq_eq_false_iff_ne.mpr (Ne.symm (Nat.ne_of_lt hb)),[],.nil,Heap.DictOf.new h⟩
def tDNewK:TE:=fun _ H Q=>∀ p,H p=none->Q (.ref p) (upd H p (.dK []))
section
variable {X:Cx} {pos:Pos}
theorem zfu:PE X (.Dict [] [] pos) tDNewK:=fun pins s σ H Q I h =>
 wpAny_Dict_empty ⟨.ref s.heap.objs.size,_,I.laid (a:=s.heap.objs.size) (o:=.dK []) (t':=s.toks) (fun _ _ q=>Heap.get?_push_of_some _ q) (Nat.le_refl _) (zml s.heap I.big),rfl,h _ (I.hok.fresh (Nat.le_refl _))⟩
end
def zkk:List (TE×TE)->St->Hp->(List (V×V)->Hp->Prop)->Prop
 | [],_,H,Q=>Q [] H
 | (tk,tv) :: r,σ,H,Q=>tk σ H fun x H1=>tv σ H1 fun y H2=>zkk r σ H2 fun ps H3=>Q ((x,y) :: ps) H3
abbrev VV:List (V×V)->List (Value×Value)->Prop:=Paired fun p q=>RelV p.1 q.1/\RelV p.2 q.2
def PPs (X:Cx) (pos:Pos) (keys:List (Option Expr)) (values:List Expr) (trs:List (TE×TE)):Prop :=
 ∀ (pins:List (Addr×Obj)) (s:Shared) (σ:St) (H:Hp) (Q:List (V×V)->Hp->Prop),Inv X pins σ H s->zkk trs σ H Q ->
  wpAny (model X.prog X.w) X.A (evalPairs (pairTrees keys values X.env pos)) (fun vs s'=>∃ ps H',Inv X pins σ H' s'/\VV ps vs/\Q ps H') X.xe s
theorem zsf {X:Cx} {pos:Pos}:PPs X pos [] [] []:=fun pins s σ H Q I h=>pairTrees_nil_walk ⟨[],H,I,.nil,h⟩
theorem zqm {X:Cx} {pos:Pos} {k v:Expr} {ks:List (Option Expr)} {vs:List Expr} {tk tv:TE} {trs:List (TE×TE)} (hk:PE X k tk) (hv:PE X v tv) (hr:PPs X pos ks vs trs) :
    PPs X pos (some k :: ks) (v :: vs) ((tk,tv) :: trs):=fun pins s σ H Q I h =>
  pairTrees_cons_walk (thn (hk pins s σ H _ I h) fun u s1 ⟨x,H1,I1,rx,q1⟩=>thn (hv pins s1 σ H1 _ I1 q1) fun w2 s2 ⟨y,H2,I2,ry,q2⟩ =>
    thn (hr pins s2 σ H2 _ I2 q2) fun ws s3 ⟨ps,H3,I3,rel,q3⟩=>⟨(x,y) :: ps,H3,I3,.cons ⟨rx,ry⟩ rel,q3⟩)
def zfe (kvs more:List (Key×V)):List (Key×V):=more.foldl (fun acc kv=>putK acc kv.1 kv.2) kvs
theorem KV.merge:∀ {more:List (Key×V)} {rs:List (Key×Value)} {kvs:List (Key×V)} {vs:List (Key×Value)},KV more rs->KV kvs vs->KV (zfe kvs more) (merged vs rs):=by
 intro more rs kvs vs r
 unfold KV at r
 induction r generalizing kvs vs with
 | nil=>intro q; exact q
 | @cons p q ps qs h t ih =>
  intro r0
  have e:KV (putK kvs p.1 p.2) (stored vs q.1 q.2):=by
   have:=r0.put p.1 h.2
   rw [<- h.1]; exact this
  exact ih e
theorem zfv:∀ (more kvs:List (Key×V)),(zfe kvs more).length<=kvs.length+more.length
 | [],kvs=>by show kvs.length<=kvs.length+0; omega
 | p :: r,kvs=>by
  have h1:=zfv r (putK kvs p.1 p.2)
  have h2:=zdx kvs p.1 p.2
  show (zfe (putK kvs p.1 p.2) r).length<=_
  rw [List.length_cons]; omega
theorem zin {P:Program} {w:World}:∀ {kvs:List (Key×V)} {ws:List (Value×Value)},VV (kvs.map fun kv=>(kV kv.1,kv.2)) ws->∃ rs,Carries (zbe P w) ws rs/\KV kvs rs
 | [],_,r=>by rw [List.map_nil] at r; cases r; exact ⟨[],True.intro,.nil⟩
 | p :: kvs,_,r=>by
  rw [List.map_cons] at r
  cases r with
  | @cons a b as bs h t =>
   obtain ⟨rs,c,q⟩:=zin (P:=P) (w:=w) t
   obtain ⟨b1,b2⟩:=b
   exact ⟨(p.1,b2) :: rs,⟨kV_is h.1,rfl,c⟩,.cons ⟨rfl,h.2⟩ q⟩
def tDisp (trs:List (TE×TE)):TE:=fun σ H Q=>∀ p,H p=none->zkk trs σ (upd H p (.dK [])) fun ps H2=>H2 p=some (.dK [])/\∃ kvs:List (Key×V),ps=kvs.map (fun kv=>(kV kv.1,kv.2))/\kvs.length<=15/\Q (.ref p) (upd H2 p (.dK (zfe [] kvs)))
theorem zsg {X:Cx} {pos:Pos} {keys:List (Option Expr)} {values:List Expr} {trs:List (TE×TE)} (h:PPs X pos keys values trs) (hall:keys.all (·.isSome)=true) (hl:keys.length=values.length) (h0:keys≠[])
    (h15:keys.length<=15):PE X (.Dict keys values pos) (tDisp trs):=by
  intro pins s σ H Q I q
  have hn:=I.hok.fresh (Nat.le_refl s.heap.objs.size)
  have I1:=I.laid (a:=s.heap.objs.size) (o:=.dK []) (h':=s.heap.push { cls:=.type "dict", data:=.dict #[] }) (t':=s.toks) (fun _ _ q=>Heap.get?_push_of_some _ q) (Nat.le_refl _) (zml s.heap I.big)
  refine wpAny_Dict_walk (knd:=zbe X.prog X.w) hall hl h0 h15 (thn (h pins _ σ _ _ I1 (q _ hn)) fun ws s2 ⟨ps,H2,I2,rel,e,kvs,ep,lk,q2⟩=>?_)
  subst ep
  obtain ⟨rs,c,rk⟩:=zin (P:=X.prog) (w:=X.w) rel
  obtain ⟨z,hd,vs0,r0,dd⟩:=dk_of I2.hok e
  cases r0
  refine ⟨rs,c,dd,fun h' dd' hs=>⟨.ref s.heap.objs.size,_,?_,rfl,q2⟩⟩
  have hz:(zfe [] kvs).length<=sizeLine:=by
    have h1:=zfv kvs []
    rw [List.length_nil] at h1
    rw [sizeLine_eq]; omega
  have he:∃ q,h'.get? s.heap.objs.size=some q:=let ⟨q,_,_,hq,_⟩:=dd'; ⟨q,hq⟩
  exact zll I2 (by rw [e]; exact True.intro) hs he (zrm hz hd (rk.merge .nil) dd')
def IsD (H:Hp) (a:Addr):Prop:=(∃ kvs,Rd H a (.dK kvs))\/∃ kvs,Rd H a (.dT kvs)
theorem zoy {X:Cx} {pins:List (Addr×Obj)} {σ:St} {H:Hp} {s:Shared} {a:Addr} (I:Inv X pins σ H s) (d:IsD H a) :
    s.TypeIs (.ref a) "dict" /\ (∀ b,Value.ref a = .ref b->∃ ob,s.heap.get? b=some ob/\ob.dict=none)/\(a == sysModules)=false:=by
  rcases d with ⟨kvs,e⟩ | ⟨kvs,e⟩
  · obtain ⟨_,hd,vs,_,dd⟩:=dk_rd I.hok e
    refine ⟨dd.typeIs,fun b q=>?_,hd⟩
    cases q
    obtain ⟨ob,_,_,h1,h2,_⟩:=dd
    exact ⟨ob,h1,h2.2.1⟩
  · obtain ⟨_,hd,xs,_,dd⟩:=dt_rd I.hok e
    refine ⟨dd.typeIs,fun b q=>?_,hd⟩
    cases q
    obtain ⟨ob,_,_,h1,h2,_⟩:=dd
    exact ⟨ob,h1,h2.2.1⟩
section
variable {X:Cx} {pins:List (Addr×Obj)} {σ:St} {H:Hp} {s:Shared} {a:Addr} {y d:V} {u r:Value} {o:Option V} {A:Around} {E:Value->Shared->Prop}
end
def tDGet1 (td ty:TE):TE:=fun σ H Q=>td σ H fun x H1=>∃ a,x = .ref a/\IsD H1 a/\ty σ H1 fun y H2=>∃ o,DGet H2 a y o/\Q (o.getD .non) H2
def tDGet2 (td ty tx:TE):TE:=fun σ H Q=>td σ H fun x H1=>∃ a,x = .ref a/\IsD H1 a/\ty σ H1 fun y H2=>tx σ H2 fun z H3=>∃ o,DGet H3 a y o/\Q (o.getD z) H3
def tDPop1 (td ty:TE):TE:=fun σ H Q=>td σ H fun x H1=>∃ a,x = .ref a/\IsD H1 a/\ty σ H1 fun y H2=>∃ kvs k v,H2 a=some (.dK kvs)/\y=kV k/\valV kvs k=some v/\Q v (upd H2 a (.dK (dropK kvs k)))
section
variable {X:Cx} {o e f:Expr} {apos cpos:Pos} {td ty tx:TE}
end
section
variable {X:Cx} {pins:List (Addr×Obj)} {σ:St} {H:Hp} {s:Shared} {a:Addr} {kvs:List (Key×V)} {A:Around} {E:Value->Shared->Prop}
end
section
variable {X:Cx} {pins:List (Addr×Obj)} {σ:St} {H:Hp} {s:Shared} {a:Addr} {y:V} {u:Value} {A:Around} {E:Value->Shared->Prop}
end
end L2
namespace L2
open PySem PySem.Spec PyProof.Rows
section
variable {X:Cx}
end
section
variable {κ:Type} [DecidableEq κ]
end
end L2
namespace L2
open PySem PySem.Spec PyProof.Rows
def tTru (K:PySem.W.Frag) (ta:TE):TT:=fun σ H Q=>ta σ H fun x H1=>∃ k,TruV K x H1 k/\Q k H1
end L2
namespace Sw
abbrev T3:=Rat×Rat×Int
def isHd (m:Rat) (u:T3):Bool:=!decide (m<u.1) && decide (m<u.2.1)
def hds (us:List T3) (m:Rat):List T3:=us.filter (isHd m)
def Grd (D:Int) (q:Rat):Prop:=∃ n:Int,q=(n:Rat) / (D:Rat)
end Sw
namespace L2
open PySem PySem.Spec PyProof.Rows
theorem zln {c:TT} {tb:TS} {D:Ends} {σ:St} {H:Hp} (W:Nat->St->Hp->Prop) {m0:Nat} (h0:W m0 σ H)
    (hs:∀ m σ H,W m σ H->∃ b:Bool,(∀ Q:Bool->Hp->Prop,Q b H->c σ H Q)/\(b=true->tb { D with nx:=fun σ' H'=>∃ m',m' < m/\W m' σ' H',ct:=fun σ' H'=>∃ m',m' < m/\W m' σ' H',bk:=D.nx } σ H)/\(b=false->D.nx σ H)):znq c tb D σ H:=by
  refine ⟨W,⟨_,h0⟩,fun m σ H p=>?_⟩
  obtain ⟨b,hc,h1,h2⟩:=hs m σ H p
  refine hc _ ?_
  cases b with
  | true=>exact ⟨_,fun σ' H' z=>z,h1 rfl⟩
  | false=>exact h2 rfl
theorem zio {α β:Type} {F:α->β->Prop}:∀ {l₁:List α} {l₂:List β} {i:Nat} {a:α},Paired F l₁ l₂->l₁[i]? = some a->∃ b,l₂[i]? = some b/\F a b
 | _,_,_,_,Paired.nil,e=>by simp at e
 | _,_,0,_,Paired.cons x _,e=>by simp at e; subst e; exact ⟨_,rfl,x⟩
 | _,_,i+1,_,Paired.cons _ y,e=>by
  obtain ⟨b,h1,h2⟩:=zio (i:=i) y (by simpa using e)
  exact ⟨b,by simpa using h1,h2⟩
end L2
namespace L2
open PySem PySem.Spec PyProof.Rows
end L2
namespace Sw
open L2
end Sw
namespace L2
open PySem PySem.Spec PyProof.Rows
end L2
namespace L2
open PySem PySem.Spec PyProof.Rows
def Ite1 (K:PySem.W.Frag) (a:Addr):It :=
  ⟨fun i H=>∃ xs x,SqL K H a xs/\xs[i]? = some x,
   fun i H y H'=>∃ p x,y = .ref p/\H p=none/\(∀ xs,SqL K H a xs->xs[i]? = some x)/\H'=upd H p (.tup [.int ((i+1:Nat):Int),x]),
   fun i H=>∃ xs,SqL K H a xs/\xs.length=i⟩
section
variable {X:Cx}
def iEnum1 (K:PySem.W.Frag) (ta:TA):TI:=fun σ H R=>ta σ H fun vs H1=>∃ a,vs = [.ref a]/\(∃ xs,SqL K H1 a xs)/\R (Ite1 K a) H1
end
end L2
namespace L2
open PySem PySem.Spec PyProof.Rows
section
variable {X:Cx}
def Itv (K:PySem.W.Frag) (a:Addr) (xs:List V):It :=
 ⟨fun i H=>SqL K H a xs/\i<xs.length,fun i H x H'=>H'=H/\xs.reverse[i]? = some x,fun i H=>SqL K H a xs/\xs.length=i⟩
def iRev (K:PySem.W.Frag) (ta:TA):TI:=fun σ H R=>ta σ H fun vs H1=>∃ a xs,vs = [.ref a]/\SqL K H1 a xs/\R (Itv K a xs) H1
end
end L2
namespace L2
end L2
namespace L2
open PySem PySem.Spec PyProof.Rows
def DSd (H:Hp) (a:Addr) (y d:V) (v:V) (H':Hp):Prop:=∃ kvs k,H a=some (.dK kvs)/\y=kV k/\kvs.length<sizeLine/\((valV kvs k=some v/\H'=H)\/(valV kvs k=none/\v=d/\H'=upd H a (.dK (putK kvs k d))))
section
variable {X:Cx} {pins:List (Addr×Obj)} {σ:St} {H H':Hp} {s:Shared} {a:Addr} {y d v:V} {u r:Value} {A:Around} {E:Value->Shared->Prop}
end
def tDSd (td ty tx:TE):TE:=fun σ H Q=>td σ H fun x H1=>∃ a,x = .ref a/\IsD H1 a/\ty σ H1 fun y H2=>tx σ H2 fun z H3=>∃ v H4,DSd H3 a y z v H4/\Q v H4
section
variable {X:Cx} {o e f:Expr} {td ty tx:TE} {apos cpos:Pos}
end
end L2
namespace Sw
open L2
def ov (low high:Rat) (u:T3):Rat:=if u.2.1<=low then 0 else if high<=u.1 then 0 else (if u.2.1<=high then u.2.1 else high)-(if low<=u.1 then u.1 else low)
end Sw
namespace Sw
open L2
end Sw
namespace Sw
open L2
end Sw
namespace L2
open PySem PySem.Spec PyProof.Rows
section
variable {X:Cx}
def zsh:V->List V->Hp->VK->Prop:=fun x vs H Q=>∃ l xs i y,x = .ref l/\vs = [.int i,y]/\H l=some (.lst xs)/\0<=i/\i<=xs.length/\xs.length<sizeLine/\Q .non (upd H l (.lst (xs.take i.toNat++y :: xs.drop i.toNat)))
theorem zoz:MtM X "list.insert" zsh:=by
 intro pins s σ H x vs v us Q I rx rv h
 obtain ⟨l,xs,i,y,rfl,rfl,hH,h0,h1,hz,q⟩:=h
 cases rx
 obtain ⟨ui,u,rfl,ri,ru⟩:=Vals.two rv
 obtain ⟨t,rfl⟩:=ri
 obtain ⟨z,its,n,r,hl,e⟩:=I.lstM hH
 have big:sizeLine<2 ^ 63:=by decide
 have fit:¬ (!Builtin.List.listFitsIndex i)=true:=by
  unfold Builtin.List.listFitsIndex
  simp
  omega
 refine call_meets F.slot_list_insert ⟨_,e,rfl⟩ F.entry_list_insert (F.args_list_insert_3 _ _ _) (AutoSeq1.list_insert_list_int_val_1 l its.toArray n i t u fit (by rw [List.size_toArray]; omega)) ⟨e,?_⟩
 refine ⟨.non,_,I.lset (its':=its.take i.toNat++u :: its.drop i.toNat) hH e ?_ ((r.take _).append (.cons ru (r.drop _))) ?_,rfl,q⟩
 ·show ((its.toArray.extract 0 (if i<0 then (i+((its.toArray.size:Nat):Int)).toNat else min i.toNat its.toArray.size)).push u++its.toArray.extract (if i<0 then (i+((its.toArray.size:Nat):Int)).toNat else min i.toNat its.toArray.size))=(its.take i.toNat++u :: its.drop i.toNat).toArray
  rw [if_neg (by omega),List.size_toArray,Nat.min_eq_left (by omega)]
  apply Array.ext'
  simp
  exact List.take_of_length_le (by rw [List.length_drop]; omega)
 ·rw [List.length_append,List.length_cons,List.length_take,List.length_drop]
  omega
end
abbrev D2:=Int×Int
def d2 (g:D2):List V:=[.int g.1,.int g.2]
abbrev Duos (H:Hp):List Addr->List D2->Prop:=Paired fun p g=>H p=some (.tup (d2 g))
theorem Duos.keep {H H':Hp} {ps:List Addr} {gs:List D2} (h:Duos H ps gs) (e:∀ p xs,H p=some (.tup xs)->H' p=some (.tup xs)):Duos H' ps gs:=Paired.mapP h fun _ _ q=>e _ _ q
structure Gos (H:Hp) (l:Addr) (ps:List Addr) (gs:List D2):Prop where
 hl:H l=some (.lst (ps.map V.ref))
 r:Duos H ps gs
end L2
namespace Sw
open L2
end Sw
namespace L2
open PySem PySem.Spec PyProof.Rows
theorem znf {lo:Int} {n:Nat} {g:TG} {tc:TT} {te:TE} {D:Addr} {τ:St} {H:Hp} {Q:VK} (Pv:Nat->St->Hp->Prop) (h0:Pv 0 τ H)
    (hs:∀ i τ H,i<n->Pv i τ H->g (.int (lo+i)) τ H fun τ2 H3=>tc τ2 H3 fun b H4=>if b=true then te τ2 H4 fun y H5=>∃ ys,H5 D=some (.lst ys)/\ys.length<sizeLine/\Pv (i+1) τ2 (upd H5 D (.lst (ys++[y]))) else Pv (i+1) τ2 H4)
    (hd:∀ τ H,Pv n τ H->Q (.ref D) H):CompG (Itr lo n) g tc te D τ H Q:=by
  refine ⟨fun i m τ H=>m=n-i/\i<=n/\Pv i τ H,⟨n,by simp,Nat.zero_le _,h0⟩,?_⟩
  rintro i m τ H ⟨rfl,hi,p⟩
  by_cases hlt:i<n
  · refine .inr ⟨hlt,Pv (i+1),fun τ' H' p'=>⟨n-(i+1),by omega,rfl,hlt,p'⟩,fun x H' y=>?_⟩
    obtain ⟨e,y⟩:=y
    subst e y
    exact hs i τ _ hlt p
  · have e:i=n:=by omega
    subst e
    exact .inl ⟨Nat.le_refl _,hd τ H p⟩
end L2
namespace L2
open PySem PySem.Spec PyProof.Rows
section
variable {X:Cx}
end
end L2
namespace L2
open PySem PySem.Spec PyProof.Rows
theorem kV_of {P:Program} {w:World} {k:Key} {u:Value} (h:(zbe P w).is k u=true):RelV (kV k) u:=by
 rcases zbw h with ⟨i,t,rfl,rfl⟩ | ⟨x,t,rfl,rfl⟩
 ·exact ⟨t,rfl⟩
 ·exact ⟨t,rfl⟩
theorem zkl {P:Program} {w:World}:∀ {kvs:List (Key×V)} {vs:List (Key×Value)} {us:List Value},KV kvs vs->us.length=vs.length->(∀ (j:Nat) (v:Value),us[j]? = some v->∃ k x,vs[j]? = some (k,x)/\(zbe P w).is k v=true)->Vals (kvs.map fun kv=>kV kv.1) us
 | _,_,[],Paired.nil,_,_=>.nil
 | _,_,_ :: _,Paired.nil,e,_=>by cases e
 | _,_,[],Paired.cons _ _,e,_=>by cases e
 | _,_,u :: us,Paired.cons (a:=p) (b:=q) h t,e,hj=>by
  obtain ⟨k,x,h1,h2⟩:=hj 0 u rfl
  have h1:q=(k,x):=by simpa using h1
  subst h1
  have e1:p.1=k:=h.1
  refine .cons ?_ (zkl t (by simpa using e) fun j v hv=>hj (j+1) v (by simpa using hv))
  show RelV (kV p.1) u
  rw [e1]
  exact kV_of h2
def rLstD:List V->Hp->VK->Prop:=fun xs H Q=>∃ a kvs,xs = [.ref a]/\H a=some (.dK kvs)/\∀ l,H l=none->Q (.ref l) (upd H l (.lst (kvs.map fun kv=>kV kv.1)))
section
variable {X:Cx}
theorem ziq (hc:X.calm=true):CallR X (.type "list") rLstD:=by
 intro pins s σ H xs us Q I r h
 obtain ⟨a,kvs,rfl,ha,q⟩:=h
 obtain ⟨u,rfl,ru⟩:=r.one
 cases ru
 obtain ⟨z,hd,vs,rel,o,es,ep,d1⟩:=dk_of I.hok ha
 refine PySem.W.kdl_call (PySem.W.kdl_dict (knd:=zbe X.prog X.w) (kvs:=vs) (ep:=ep) hd) (I.ok.hd hc) ⟨o,es,d1⟩ (by rw [<- rel.length]; exact z) fun h' tk acc c hk hD it=>?_
 have hv:Vals (kvs.map fun kv=>kV kv.1) acc.toList:=zkl rel (by rw [Array.length_toList]; exact it.1) fun j v e=>it.2 j v (by rw [<- Array.getElem?_toList]; exact e)
 have new:ObjOk X.prog X.w (upd H s.heap.objs.size (.lst (kvs.map fun kv=>kV kv.1))) h' s.heap.objs.size (.lst (kvs.map fun kv=>kV kv.1)):=⟨by rw [List.length_map]; exact z,acc.toList,c,hv,by rw [Array.toArray_toList]; exact hD⟩
 exact ⟨.ref s.heap.objs.size,_,I.laid hk (Nat.le_refl _) new,rfl,q _ I.fresh⟩
end
end L2
namespace L2
open PySem PySem.Spec PyProof.Rows
section
variable {X:Cx} {pins:List (Addr×Obj)} {σ:St} {H:Hp} {s:Shared} {a:Addr} {kvs:List (Key×V)} {o:Obj}
theorem Inv.frozen (I:Inv X pins σ H s) (h:H a=some (.dK kvs)) (ho:s.heap.get? a=some o):Inv X pins σ (upd H a (.frz o (.dK kvs))) s:=by
 have ne:∀ b,H b=none->b≠a:=fun b n z=>by rw [z,h] at n; cases n
 have nt:∀ b u,H b=some u->(∀ k,u≠.dK k)->b≠a:=fun b u e n z=>by rw [z,h] at e; cases e; exact n _ rfl
 have up:∀ b u,H b=some u->(∀ k,u≠.dK k)->upd H a (.frz o (.dK kvs)) b=some u:=fun b u e n=>by rw [zah (nt b u e n)]; exact e
 have hok:HOk X.prog X.w (upd H a (.frz o (.dK kvs))) s.heap:=fun b ob e=>by
  by_cases hb:b=a
  ·subst hb
   rw [zab] at e
   cases e
   exact ⟨ho,(I.hok b _ h).stay (fun _ _ _ q=>q) (fun c q=>up c _ q (by intro k z; cases z)) fun c xs q=>up c _ q (by intro k z; cases z)⟩
  ·rw [zah hb] at e
   exact (I.hok b _ e).stay (fun _ _ _ q=>q) (fun c q=>up c _ q (by intro k z; cases z)) fun c xs q=>up c _ q (by intro k z; cases z)
 exact I.step (g':=s.gens) (d':=s.drawn) (t':=s.toks) (ch:=[]) (fun _ z=>nomatch z) (fun b o' _ _ _ e _=>e) (fun b o' _ _ _ e _=>⟨o'.slots,e⟩) (fun b o' _ _ n=>by rw [zah (ne b n)]; exact n) (fun b o' _ e=>⟨o',e⟩)
  (fun b xs q=>up b _ q (by intro k z; cases z)) (fun b o' u q=>up b _ q (by intro k z; cases z)) (fun b ps q=>⟨#[],by rw [up b _ q (by intro k z; cases z)]; simp⟩) (fun m q=>q) hok I.bare
theorem Inv.thawed (I:Inv X pins σ H s) (h:H a=some (.frz o (.dK kvs))) (n0:∀ o u,X.H₀ a≠some (.frz o u)):Inv X pins σ (upd H a (.dK kvs)) s:=by
 have ne:∀ b,H b=none->b≠a:=fun b n z=>by rw [z,h] at n; cases n
 have un:∀ b,H b=none->upd H a (.dK kvs) b=none:=fun b n=>by rw [zah (ne b n)]; exact n
 have nt:∀ b u,H b=some u->(∀ k v,u≠.frz k v)->upd H a (.dK kvs) b=some u:=fun b u e n=>by
  have:b≠a:=fun z=>by rw [z,h] at e; cases e; exact n _ _ rfl
  rw [zah this]; exact e
 have hok:HOk X.prog X.w (upd H a (.dK kvs)) s.heap:=fun b ob e=>by
  by_cases hb:b=a
  ·subst hb
   rw [zab] at e
   cases e
   exact (I.hok b _ h).2.stay (fun _ _ _ q=>q) (fun c q=>nt c _ q (by intro k v z; cases z)) fun c xs q=>nt c _ q (by intro k v z; cases z)
  ·rw [zah hb] at e
   exact (I.hok b _ e).stay (fun _ _ _ q=>q) (fun c q=>nt c _ q (by intro k v z; cases z)) fun c xs q=>nt c _ q (by intro k v z; cases z)
 refine ⟨I.ok,I.os,I.bare,⟨I.base.keep,I.base.slot,fun b o' e n hx=>un b (I.base.free b o' e n hx),I.base.there,fun b xs q=>nt b _ (I.base.tups b xs q) (by intro k v z; cases z),fun b o' u q=>?_,fun b ps q=>?_⟩,I.loc,I.cell,un _ I.free,fun x c e=>un _ (I.freeC x c e),fun p hp=>?_,hok,I.len⟩
 ·have hb:b≠a:=fun z=>n0 o' u (by rw [<- z]; exact q)
  rw [zah hb]
  exact I.base.frzs b o' u q
 ·obtain ⟨m,e⟩:=I.base.tbls b ps q
  exact ⟨m,nt b _ e (by intro k v z; cases z)⟩
 ·obtain ⟨e,n,r⟩:=I.pin p hp
  exact ⟨e,un _ n,r⟩
end
section
variable {X:Cx} {tg:Expr}
end
end L2
namespace L2
open PySem PySem.Spec PyProof.Rows
structure ClsFn (K:PySem.W.Frag) (C:Addr) (m:Str) (f:Addr):Prop where
 mc:∃ mc,PySem.W.readsIn K C mc=true/\PySem.W.findCls K (.ref C) mc m=some (.val (.ref f))
 ga:PySem.W.specialIn K (.ref C) "__getattribute__" = some (some (.builtin "type.__getattribute__"))
 kp:PySem.W.keepIn K (.ref f)=true
structure SrcU (K:PySem.W.Frag) (C:Addr) (m qual:Str) (st:Stmt) (ps:List Str):Prop where
 ex:∃ (f:Addr) (fd:FuncData),FunE K m qual st f fd/\ClsFn K C m f/\BindsV K fd ps []
structure UpD (P:Program) (w:World) (K:PySem.W.Frag) (mg:Str->Option Value) (base:Heap) (CX:CXT) (k:Nat) (C:Addr) (m:Str) (ps:List Str) (sp:Sp):Prop where
 ex:∃ (f:Addr) (fd:FuncData),FnOk P w K mg base CX k f fd ps sp/\ClsFn K C m f/\BindsV K fd ps []
section
variable {P:Program} {w:World} {K:PySem.W.Frag} {mg:Str->Option Value} {base:Heap} {CX:CXT} {C:Addr} {m qual:Str} {st:Stmt} {N ps:List Str} {k:Nat} {sp:Sp}
theorem SrcU.okN (F:SrcU K C m qual st ps) (S:FnScope N ps (zac st)) (len:∀ vs H Q E,sp vs H Q E->vs.length=ps.length)
    (hbody:∀ (f:Addr) (cdv:Value) (A:Around) (outer:List Env) (s:Shared) (H:Hp) (vs:List V) (Q:VK) (E:XK),Room k (A.deeper (envOfC qual (zac st) s.heap.objs.size f cdv))->sp vs H Q E ->
      ∃ t,PSs (cxOf CX P w K mg base N qual (zac st) f cdv A outer s H E).nox (zam st) t/\t { nx:=fun _ H'=>Q .non H',rt:=Q } (start N vs) H):UpD P w K mg base CX (k+1) C m ps sp:=by
  obtain ⟨f,fd,F,me,b⟩:=F.ex
  obtain ⟨oc,od,dV,kV,doc,pm,an,cdv,ct,osl,rfl,lk,hcd⟩:=F.ex
  exact ⟨f,_,fn_of lk hcd S len fun A outer s H vs Q E hr hsp=>by
    obtain ⟨t,h,q⟩:=hbody f cdv A outer s H vs Q E hr hsp
    exact ⟨t,h.nox,q⟩,me,b⟩
end
def tClsX (sp:Sp) (Ek:XH) (t:TA):TE:=fun σ H Q=>t σ H fun vs H1=>sp vs H1 Q (fun v d H'=>Ek v d σ H')
section
variable {X:Cx} {CX:CXT} {k:Nat} {C:Addr} {ps:List Str} {sp:Sp} {Ek:XH} {x m:Str} {p pos apos:Pos} {e:Expr} {es:List Expr} {t:TA}
theorem zpa {pl:Sem Bool} (D:UpD X.prog X.w X.K X.mg X.base CX k C m ps sp) (hr:Room k X.A) (hx:zdw CX X Ek) (hg:Gl X x) (hm:X.mg x=some (.ref C)) (ha:PA X (e :: es) t)
    (hdb:(x == ("__debug__" : Str))=false:=by decide) (hst:starEach (e :: es) X.env=(false,eval e X.env) :: starEach es X.env:=by rfl) (hpl:(backTo pos (starEach es X.env)).any (·.1)=false:=by rfl)
    (ht:eval (.Call (.Attribute (.Name x p) m apos) (e :: es) [] pos) X.env=(do
      let ov <- eval (.Name x p) X.env
      standAt apos.atName
      let (f,first) <- holding [ov] (getMethod ov m pl)
      callWith pos f first (backTo pos (starEach (e :: es) X.env)) (backToKw pos (keywordEach [] X.env))):=by rfl) :
    PE X (.Call (.Attribute (.Name x p) m apos) (e :: es) [] pos) (tClsX sp Ek t):=by
  obtain ⟨f,fd,F,cf,hb⟩:=D.ex
  obtain ⟨mc,h1,h2⟩:=cf.mc
  intro pins s σ H Q I h
  refine PySem.W.methodCall_KW (pl:=pl) (zed I hg hm ?_ hdb) ht
  refine PySem.W.method_cls I.kIn cf.ga (PySem.W.cls_value I.kIn h1 h2 rfl ?_)
  have I1:=I.tok (s.toks+1)
  refine PySem.W.callWith_K (first:=[]) (h₀:=X.base) I.ok.mod.kin cf.kp (thn (ha pos pins _ σ H _ I1 h) fun us s2 ⟨vs,H2,I2,r,q2⟩=>⟨I2.kIn,?_⟩) hst hpl
  exact zlk (dvs:=[]) F hr hb hx I2 r (by rw [List.append_nil]; exact q2)
end
end L2
namespace L2
open PySem PySem.Spec PyProof.Rows
section
variable {X:Cx}
theorem zhl (K:PySem.W.Frag) (h:X.K=K):OpR X (compareOp .NotIn) (rIn K true):=h ▸ zjy
end
abbrev Nm:=List (Str×Int)
def kvsOf (nm:Nm):List (Key×V):=nm.map fun x=>((Sum.inr x.1:Key),V.int x.2)
def shOf (nm:Nm) (x:Str):Option Int:=(nm.find? fun p=>decide (p.1=x)).map (·.2)
theorem zkm (nm:Nm):(kvsOf nm).length=nm.length:=List.length_map _
theorem zpb (nm:Nm) (x:Str):valV (kvsOf nm) (Sum.inr x:Key)=(shOf nm x).map V.int:=by
 induction nm with
 | nil=>rfl
 | cons p r ih =>
  unfold valV kvsOf shOf at ih ⊢
  rw [List.map_cons,List.find?_cons,List.find?_cons]
  by_cases h:p.1=x
  ·simp [h]
  ·have h2:¬ (Sum.inr p.1:Key)=Sum.inr x:=fun z=>h (Sum.inr.inj z)
   simp only [decide_eq_false h,decide_eq_false h2]
   exact ih
theorem zmm {nm:Nm} {x:Str} {s:Int} (h:shOf nm x=none):putK (kvsOf nm) (Sum.inr x:Key) (.int s)=kvsOf (nm++[(x,s)]):=by
 unfold putK
 have e:((kvsOf nm).any fun kv=>decide (kv.1=(Sum.inr x:Key)))=false:=by
  rw [zel,zpb,h]; rfl
 rw [e,if_neg (by decide)]
 unfold kvsOf
 rw [List.map_append]; rfl
theorem zfw {nm:Nm} {x y:Str} {s:Int} (h:shOf nm x=none):shOf (nm++[(x,s)]) y=if y=x then some s else shOf nm y:=by
 unfold shOf at h ⊢
 rw [List.find?_append]
 by_cases hy:y=x
 ·subst hy
  rw [if_pos rfl]
  cases q:nm.find? fun p=>decide (p.1=y) with
  | none=>simp
  | some v=>rw [q] at h; cases h
 ·rw [if_neg hy]
  have e:([(x,s)]:Nm).find? (fun p=>decide (p.1=y))=none:=by
   have:¬ x=y:=fun z=>hy z.symm
   simp [this]
  rw [e]; simp
theorem zqn {nm:Nm} {x:Str} {s:Int} (h:shOf nm x=some s):(x,s)∈nm:=by
 unfold shOf at h
 cases q:nm.find? fun p=>decide (p.1=x) with
 | none=>rw [q] at h; cases h
 | some v =>
  rw [q] at h
  have e1:v.2=s:=Option.some.inj h
  have e2:v.1=x:=by simpa using List.find?_some q
  have:=List.mem_of_find?_eq_some q
  rw [<- e1,<- e2]; exact this
theorem zlo {nm:Nm} {x:Str} {s:Int} (h:(x,s)∈nm):shOf nm x≠none:=by
 unfold shOf
 intro z
 have z:nm.find? (fun p=>decide (p.1=x))=none:=by simpa using z
 have:=List.find?_eq_none.mp z _ h
 simp at this
structure Mb (C:Addr) (H:Hp) (p psh:Addr) (nm:Nm):Prop where
 ex:∃ dx fs,H p=some (.ins C dx fs)/\fs.lookup ("shares" : Str)=some (.ref psh)/\(∀ m:Str,¬ m = "shares" -> fs.lookup m=none)/\fs.length<900
 hs:H psh=some (.dK (kvsOf nm))
theorem Mb.same {C:Addr} {H H':Hp} {p psh:Addr} {nm:Nm} (h:Mb C H p psh nm) (s:Same H H'):Mb C H' p psh nm:=by
 obtain ⟨dx,fs,h1,h2⟩:=h.ex
 exact ⟨⟨dx,fs,s _ _ h1,h2⟩,s _ _ h.hs⟩
theorem Mb.put {C:Addr} {H:Hp} {p psh:Addr} {nm nm':Nm} (h:Mb C H p psh nm):Mb C (upd H psh (.dK (kvsOf nm'))) p psh nm':=by
 obtain ⟨dx,fs,h1,h2⟩:=h.ex
 exact ⟨⟨dx,fs,by rw [zah (ne_of h1 h.hs (by intro z; cases z))]; exact h1,h2⟩,zab⟩
end L2
namespace L2
open PySem PySem.Spec PyProof.Rows
structure RatD (H:Hp) (p:Addr) (f:Str->Option Rat) (n:Nat):Prop where
 ex:∃ kvs,H p=some (.dK kvs)/\(∀ x:Str,(f x=none/\valV kvs (Sum.inr x:Key)=none)\/∃ r q,f x=some r/\valV kvs (Sum.inr x:Key)=some (.ref q)/\H q=some (.tup (fq r)))/\kvs.length<=n
theorem RatD.keep {H H':Hp} {p:Addr} {f:Str->Option Rat} {n:Nat} (h:RatD H p f n) (e:∀ b o,b=p\/(∃ xs,H b=some (.tup xs))->H b=some o->H' b=some o):RatD H' p f n:=by
 obtain ⟨kvs,h1,h2,h3⟩:=h.ex
 refine ⟨kvs,e _ _ (.inl rfl) h1,fun x=>?_,h3⟩
 rcases h2 x with z | ⟨r,q,a,b,c⟩
 ·exact .inl z
 ·exact .inr ⟨r,q,a,b,e _ _ (.inr ⟨_,c⟩) c⟩
theorem RatD.same {H H':Hp} {p:Addr} {f:Str->Option Rat} {n:Nat} (h:RatD H p f n) (s:Same H H'):RatD H' p f n:=h.keep fun b o _ e=>s b o e
def setS (f:Str->Option Rat) (x:Str) (r:Rat):Str->Option Rat:=fun y=>if y=x then some r else f y
theorem RatD.put {H:Hp} {p q:Addr} {f:Str->Option Rat} {n:Nat} {x:Str} {r:Rat} {kvs:List (Key×V)} (h1:H p=some (.dK kvs)) (h2:∀ x:Str,(f x=none/\valV kvs (Sum.inr x:Key)=none)\/∃ r q,f x=some r/\valV kvs (Sum.inr x:Key)=some (.ref q)/\H q=some (.tup (fq r)))
    (h3:(putK kvs (Sum.inr x:Key) (.ref q)).length<=n) (hq:H q=some (.tup (fq r))):RatD (upd H p (.dK (putK kvs (Sum.inr x:Key) (.ref q)))) p (setS f x r) n:=by
  have nt:∀ b xs,H b=some (.tup xs)->upd H p (.dK (putK kvs (Sum.inr x:Key) (.ref q))) b=some (.tup xs):=fun b xs e=>by rw [zah (ne_of e h1 (by intro z; cases z))]; exact e
  refine ⟨_,zab,fun y=>?_,h3⟩
  rw [zql]
  unfold setS
  by_cases e:y=x
  · subst e
    rw [if_pos rfl,if_pos rfl]
    exact .inr ⟨r,q,rfl,rfl,nt _ _ hq⟩
  · rw [if_neg e,if_neg (fun z=>e (Sum.inr.inj z))]
    rcases h2 y with z | ⟨r',q',a,b,c⟩
    · exact .inl z
    · exact .inr ⟨r',q',a,b,nt _ _ c⟩
structure FS (fs:List (Str×V)) (most:Int) (pm:Addr) (ch:V) (pr pt pg:Addr):Prop where
 mo:fs.lookup ("most" : Str)=some (.int most)
 me:fs.lookup ("members" : Str)=some (.ref pm)
 ch:fs.lookup ("chosen" : Str)=some ch
 re:fs.lookup ("reached" : Str)=some (.ref pr)
 ta:fs.lookup ("tags" : Str)=some (.ref pt)
 gr:fs.lookup ("greatest_steps" : Str)=some (.ref pg)
 no:∀ m:Str,¬ m = "most" -> ¬ m = "members" -> ¬ m = "chosen" -> ¬ m = "reached" -> ¬ m = "tags" -> ¬ m = "greatest_steps" -> fs.lookup m=none
 len:fs.length<900
theorem zaj {fs:List (Str×V)} {f g:Str} {v:V} (h:¬ g=f):(putF f v fs).lookup g=fs.lookup g:=by rw [zdj,if_neg h]
theorem zbr {fs:List (Str×V)} {f:Str} {v:V}:(putF f v fs).lookup f=some v:=by rw [zdj,if_pos rfl]
theorem FS.mk0 (most:Int) (pm:Addr) (ch:V) (pr pt pg:Addr):FS (putF "greatest_steps" (.ref pg) (putF "tags" (.ref pt) (putF "reached" (.ref pr) (putF "chosen" ch (putF "members" (.ref pm) (putF "most" (.int most) [])))))) most pm ch pr pt pg:=by
 refine ⟨?_,?_,?_,?_,?_,?_,fun m h1 h2 h3 h4 h5 h6=>?_,?_⟩
 ·rw [zaj (by decide +kernel),zaj (by decide +kernel),zaj (by decide +kernel),zaj (by decide +kernel),zaj (by decide +kernel),zbr]
 ·rw [zaj (by decide +kernel),zaj (by decide +kernel),zaj (by decide +kernel),zaj (by decide +kernel),zbr]
 ·rw [zaj (by decide +kernel),zaj (by decide +kernel),zaj (by decide +kernel),zbr]
 ·rw [zaj (by decide +kernel),zaj (by decide +kernel),zbr]
 ·rw [zaj (by decide +kernel),zbr]
 ·rw [zbr]
 ·rw [zaj h6,zaj h5,zaj h4,zaj h3,zaj h2,zaj h1]; rfl
 ·have a1:=zal (fs:=[]) (f := "most") (v:=.int most)
  have a2:=zal (fs:=putF "most" (.int most) []) (f := "members") (v:=.ref pm)
  have a3:=zal (fs:=putF "members" (.ref pm) (putF "most" (.int most) [])) (f := "chosen") (v:=ch)
  have a4:=zal (fs:=putF "chosen" ch (putF "members" (.ref pm) (putF "most" (.int most) []))) (f := "reached") (v:=.ref pr)
  have a5:=zal (fs:=putF "reached" (.ref pr) (putF "chosen" ch (putF "members" (.ref pm) (putF "most" (.int most) [])))) (f := "tags") (v:=.ref pt)
  have a6:=zal (fs:=putF "tags" (.ref pt) (putF "reached" (.ref pr) (putF "chosen" ch (putF "members" (.ref pm) (putF "most" (.int most) []))))) (f := "greatest_steps") (v:=.ref pg)
  simp only [List.length_nil] at a1
  omega
structure At5 where
 p:Addr
 pm:Addr
 ps:Addr
 pt:Addr
 pg:Addr
structure Sx (C Cm:Addr) (H:Hp) (a:At5) (most:Int) (nm:Nm) (tg gs:Str->Option Rat) (ck:Rat) (ch:V) (N:Nat):Prop where
 ex:∃ dx fs pr,H a.p=some (.ins C dx fs)/\FS fs most a.pm ch pr a.pt a.pg/\H pr=some (.tup (fq ck))
 mb:Mb Cm H a.pm a.ps nm
 dt:RatD H a.pt tg N
 dg:RatD H a.pg gs N
 nl:nm.length<=N
 n1:a.pt≠a.pg
 n2:a.pt≠a.ps
 n3:a.pg≠a.ps
 n4:a.p≠a.pm
theorem Sx.same {C Cm:Addr} {H H':Hp} {a:At5} {most:Int} {nm:Nm} {tg gs:Str->Option Rat} {ck:Rat} {ch:V} {N:Nat} (h:Sx C Cm H a most nm tg gs ck ch N) (s:Same H H'):Sx C Cm H' a most nm tg gs ck ch N:=by
 obtain ⟨dx,fs,pr,h1,h2,h3⟩:=h.ex
 exact ⟨⟨dx,fs,pr,s _ _ h1,h2,s _ _ h3⟩,h.mb.same s,h.dt.same s,h.dg.same s,h.nl,h.n1,h.n2,h.n3,h.n4⟩
def Own (a:At5) (H H':Hp):Prop:=∀ b o,b≠a.p->b≠a.ps->b≠a.pt->b≠a.pg->H b=some o->H' b=some o
theorem Same.own {a:At5} {H H':Hp} (s:Same H H'):Own a H H':=fun b o _ _ _ _ e=>s b o e
theorem Own.trans {a:At5} {H H1 H2:Hp} (x:Own a H H1) (y:Own a H1 H2):Own a H H2:=fun b o n1 n2 n3 n4 e=>y b o n1 n2 n3 n4 (x b o n1 n2 n3 n4 e)
theorem RatD.mono {H:Hp} {p:Addr} {f:Str->Option Rat} {n n':Nat} (h:RatD H p f n) (l:n<=n'):RatD H p f n':=by
 obtain ⟨kvs,h1,h2,h3⟩:=h.ex
 exact ⟨kvs,h1,h2,by omega⟩
section
variable {C Cm:Addr} {H:Hp} {a:At5} {most:Int} {nm nm':Nm} {tg gs tg' gs':Str->Option Rat} {ck:Rat} {ch:V} {N N':Nat} {k:List (Key×V)}
theorem Sx.set_t (S:Sx C Cm H a most nm tg gs ck ch N) (le:N<=N') (d:RatD (upd H a.pt (.dK k)) a.pt tg' N'):Sx C Cm (upd H a.pt (.dK k)) a most nm tg' gs ck ch N':=by
 obtain ⟨dx,fs,pr,h1,h2,h3⟩:=S.ex
 obtain ⟨kvs,g1,_⟩:=S.dt.ex
 obtain ⟨dm,fm,m1,m2⟩:=S.mb.ex
 have kp:∀ b o,b≠a.pt->H b=some o->upd H a.pt (.dK k) b=some o:=fun b o n e=>by rw [zah n]; exact e
 refine ⟨⟨dx,fs,pr,kp _ _ (ne_of h1 g1 (by intro z; cases z)) h1,h2,kp _ _ (ne_of h3 g1 (by intro z; cases z)) h3⟩,⟨⟨dm,fm,kp _ _ (ne_of m1 g1 (by intro z; cases z)) m1,m2⟩,kp _ _ S.n2.symm S.mb.hs⟩,d,(S.dg.keep fun b o c e=>?_).mono le,by have:=S.nl; omega,S.n1,S.n2,S.n3,S.n4⟩
 rcases c with z | ⟨xs,z⟩
 ·subst z; exact kp _ _ S.n1.symm e
 ·exact kp _ _ (ne_of z g1 (by intro z; cases z)) e
theorem Sx.set_g (S:Sx C Cm H a most nm tg gs ck ch N) (le:N<=N') (d:RatD (upd H a.pg (.dK k)) a.pg gs' N'):Sx C Cm (upd H a.pg (.dK k)) a most nm tg gs' ck ch N':=by
 obtain ⟨dx,fs,pr,h1,h2,h3⟩:=S.ex
 obtain ⟨kvs,g1,_⟩:=S.dg.ex
 obtain ⟨dm,fm,m1,m2⟩:=S.mb.ex
 have kp:∀ b o,b≠a.pg->H b=some o->upd H a.pg (.dK k) b=some o:=fun b o n e=>by rw [zah n]; exact e
 refine ⟨⟨dx,fs,pr,kp _ _ (ne_of h1 g1 (by intro z; cases z)) h1,h2,kp _ _ (ne_of h3 g1 (by intro z; cases z)) h3⟩,⟨⟨dm,fm,kp _ _ (ne_of m1 g1 (by intro z; cases z)) m1,m2⟩,kp _ _ S.n3.symm S.mb.hs⟩,(S.dt.keep fun b o c e=>?_).mono le,d,by have:=S.nl; omega,S.n1,S.n2,S.n3,S.n4⟩
 rcases c with z | ⟨xs,z⟩
 ·subst z; exact kp _ _ S.n1 e
 ·exact kp _ _ (ne_of z g1 (by intro z; cases z)) e
theorem Sx.set_s (S:Sx C Cm H a most nm tg gs ck ch N) (le:N<=N') (ln:nm'.length<=N'):Sx C Cm (upd H a.ps (.dK (kvsOf nm'))) a most nm' tg gs ck ch N':=by
 obtain ⟨dx,fs,pr,h1,h2,h3⟩:=S.ex
 have g1:=S.mb.hs
 have kp:∀ b o,b≠a.ps->H b=some o->upd H a.ps (.dK (kvsOf nm')) b=some o:=fun b o n e=>by rw [zah n]; exact e
 refine ⟨⟨dx,fs,pr,kp _ _ (ne_of h1 g1 (by intro z; cases z)) h1,h2,kp _ _ (ne_of h3 g1 (by intro z; cases z)) h3⟩,S.mb.put,(S.dt.keep fun b o c e=>?_).mono le,(S.dg.keep fun b o c e=>?_).mono le,ln,S.n1,S.n2,S.n3,S.n4⟩
 ·rcases c with z | ⟨xs,z⟩
  ·subst z; exact kp _ _ S.n2 e
  ·exact kp _ _ (ne_of z g1 (by intro z; cases z)) e
 ·rcases c with z | ⟨xs,z⟩
  ·subst z; exact kp _ _ S.n3 e
  ·exact kp _ _ (ne_of z g1 (by intro z; cases z)) e
end
theorem own_t {a:At5} {H:Hp} {o:HO}:Own a H (upd H a.pt o):=fun b u n1 n2 n3 n4 e=>by rw [zah n3]; exact e
theorem own_g {a:At5} {H:Hp} {o:HO}:Own a H (upd H a.pg o):=fun b u n1 n2 n3 n4 e=>by rw [zah n4]; exact e
theorem own_s {a:At5} {H:Hp} {o:HO}:Own a H (upd H a.ps o):=fun b u n1 n2 n3 n4 e=>by rw [zah n2]; exact e
theorem rat01:((0:Int):Rat) / ((1:Int):Rat) = 0:=by
 have z0:((0:Int):Rat) = 0:=rfl
 rw [z0]; grind
end L2
namespace L2
open PySem PySem.Spec PyProof.Rows
structure Iv (nm:Nm) (tg gs:Str->Option Rat) (ck:Rat) (D:Int) (n:Nat):Prop where
 d0:0<D
 dz:Sw.Sz (21*n+1) D
 cg:Sw.Grd D ck
 c0:0<=ck
 cB:ck<=((n*2000000:Int):Rat)
 all:∀ x s,shOf nm x=some s->1<=s/\s<=1000000/\∃ t g,tg x=some t/\gs x=some g/\Sw.Grd D t/\Sw.Grd D g/\0<=t/\0<=g/\g<=((1000000:Int):Rat)/\t<=ck+g
end L2
namespace L2
open PySem PySem.Spec PyProof.Rows
structure Hd where
 C:Addr
 i:Option Nat
 th:TS
def Hd.run (h:Hd) (e:Addr):TS:=fun D σ H=>match h.i with
 | none=>h.th D σ H
 | some i=>h.th { nx:=fun σ H=>D.nx (σ.set i none) H,rt:=D.rt,bk:=fun σ H=>D.bk (σ.set i none) H,ct:=fun σ H=>D.ct (σ.set i none) H } (σ.set i (some (.ref e))) H
def hkM (K:PySem.W.Frag):List Hd->Ends->Addr->Addr->St->Hp->Prop
 | [],_,_,_,_,_=>False
 | h :: r,D,e,C,σ,H=>(PySem.W.subIn K (.ref C) (.ref h.C)=some true/\h.run e D σ H)\/(PySem.W.subIn K (.ref C) (.ref h.C)=some false/\hkM K r D e C σ H)
def hkMs (K:PySem.W.Frag) (hs:List Hd) (D:Ends):XH:=fun v d σ H=>∃ e C,v = .ref e/\H e=some (excO e C d false)/\hkM K hs D e C σ H
def tTryM (K:PySem.W.Frag) (hs:List Hd) (tb:XH->TS):TS:=fun D σ H=>tb (hkMs K hs D) D σ H
def PHs (X:Cx) (hds:List ExceptHandler) (hs:List Hd):Prop :=
 ∀ (pins:List (Addr×Obj)) (σ1:St) (H1 H':Hp) (s2 s1:Shared) (B h2:Heap) (ea C:Addr) (dct:Option Addr) (f:Value) (D:Ends),Inv X pins σ1 H1 s2->Fly X.prog X.w B X.stack ea C dct H' s1.heap->s1.os=s2.os->AllBare s1.gens->Un (frs X.stack) [] H1 H' s2.heap s1.heap ->
  (∀ b o,s2.heap.get? b=some o->H1 b=none->b ∉ frs X.stack->B.get? b=some o)->XAt B ea (.ref C) dct (some f) h2->UpS s1.heap h2->hkM X.K hs D ea C σ1 H'->wpAny (model X.prog X.w) X.A (handleBy (.ref ea) X.env hds) (SP X pins D) X.xe { s1 with heap:=h2 }
section
variable {P:Program} {w:World} {X:Cx} {C':Addr} {x:Str} {np hpos pos:Pos} {body suite:List Stmt} {b0:Stmt} {tb:XH->TS} {th:TS} {h0:ExceptHandler} {hds:List ExceptHandler} {hs:List Hd}
theorem zub:PHs X [] []:=fun _ _ _ _ _ _ _ _ _ _ _ _ _ _ _ _ _ _ _ _ _ q=>q.elim
theorem zgi (K:PySem.W.Frag) (hK:X.K=K) (c:XC K C') (hg:Gl X x) (hm:X.mg x=some (.ref C')) (hsu:∀ e,PSs (sufCx X e) (b0 :: suite) th) (hr:PHs X hds hs) (hdb:(x == ("__debug__" : Str))=false:=by decide) :
    PHs X (.ExceptHandler (some (.Name x np)) none (b0 :: suite) hpos :: hds) (⟨C',none,th⟩ :: hs):=by
  subst hK
  intro pins σ1 H1 H' s2 s1 B h2 ea C dct f D J F hos hbr un cv x2 u2 q
  have J2:=zgf J F hos hbr un cv x2 u2
  refine wpAny_handleBy_cons (codeAny_handlers_test (zed (X:=sufCx X ea) (inSuf J2) hg hm ?_ hdb)) (by intro z; cases z)
  obtain ⟨oe,vs,g1,g2,_⟩:=x2.ex
  rcases q with ⟨hsub,q⟩ | ⟨hsub,q⟩
  · refine zmg J2.kIn c g1 g2 hsub (codeAny_handlers_suite ?_)
    refine zfh (s:={ s1 with heap:=h2 }) x2 fun h3 x3 u3=>?_
    have J3:=zgf J F hos hbr un cv x3 (u2.trans u3)
    exact wpAny_mono (hsu ea pins _ σ1 H' D (inSuf J3) q) (fun f s4 z=>SP.unSuf J3.ok z) fun _ _ z=>False.elim z
  · exact zmg J2.kIn c g1 g2 hsub (hr pins σ1 H1 H' s2 s1 B h2 ea C dct f D J F hos hbr un cv x2 u2 q)
theorem zsi (hP:X.prog=P) (hw:X.w=w) (K:PySem.W.Frag) (hK:X.K=K) (hst:X.stack=X.env :: X.outer) (hf:X.env.frame=some X.env.locals)
    (hb:∀ pins Hk,PSs (tryCx P w X pins Hk) body (tb Hk)) (hh:PHs X (h0 :: hds) hs):PS X (.Try body (h0 :: hds) [] [] pos) (tTryM K hs tb):=by
  subst hP hw hK
  intro pins s σ H D I h
  refine wpAny_Try_except (wpAny_mono (hb pins _ [] s σ H D (inTry I) h) (fun f s1 z=>?_) fun ev s1 z=>?_)
  · have z:=SP.unTry z
    cases f with
    | next=>obtain ⟨σ1,H1,I1,q⟩:=z; exact wpAny_execs_nil ⟨σ1,H1,I1,q⟩
    | brk=>exact z
    | cont=>exact z
    | ret u=>exact z
  · obtain ⟨σ1,H1,s2,J,B,ea,C,dct,H',rfl,hos,hbr,F,un,cv,e2,C2,hv,he2,q⟩:=z
    cases hv
    have eC:C2=C/\True:=by
      obtain ⟨oe,vs,g1,g2,_⟩:=F.hok.exc he2
      obtain ⟨oe',vs',g1',g2',_⟩:=F.hok.exc F.he
      rw [g1] at g1'
      cases g1'
      rw [g2] at g2'
      exact ⟨Value.ref.inj g2',trivial⟩
    obtain ⟨rfl,_⟩:=eC
    obtain ⟨fl0,hfl,x0⟩:=F.at_
    refine zjc (outer:=X.outer) (by rw [<- hst]; exact J.ok.frames) (by rw [<- hst]; exact F.ff) hf x0 hfl fun h1 x1 u1=>?_
    refine zfh (s:={ s1 with heap:=h1 }) x1 fun h2 x2 u2=>?_
    exact hh pins σ1 H1 H' s2 s1 B h2 ea C2 dct _ D J F hos hbr un cv x2 (u1.trans u2) q
theorem zgj {K:PySem.W.Frag} {h:Hd} {r:List Hd} {D:Ends} {e C:Addr} {σ:St} {H:Hp} (s:PySem.W.subIn K (.ref C) (.ref h.C)=some true) (q:h.run e D σ H):hkM K (h :: r) D e C σ H:=.inl ⟨s,q⟩
theorem zda {K:PySem.W.Frag} {h:Hd} {r:List Hd} {D:Ends} {e C:Addr} {σ:St} {H:Hp} (s:PySem.W.subIn K (.ref C) (.ref h.C)=some false) (q:hkM K r D e C σ H):hkM K (h :: r) D e C σ H:=.inr ⟨s,q⟩
end
end L2
namespace L2
open PySem PySem.Spec PyProof.Rows
section
variable {X:Cx}
end
end L2
namespace L2
open PySem PySem.Spec PyProof.Rows PySem.MeetsSeq
section
variable {X:Cx}
end
end L2
namespace L2
open PySem PySem.Spec PyProof.Rows
section
variable {X:Cx}
end
end L2
namespace L2
open PySem PySem.Spec PyProof.Rows
end L2
namespace L2
open PySem PySem.Spec PyProof.Rows
def Iti (a:Addr) (o:Obj) (kvs:List (Key×V)):It :=
 ⟨fun i H=>i<kvs.length/\H a=some (.frz o (.dK kvs)),fun i H x H'=>∃ p kv,x = .ref p/\H p=none/\kvs[i]? = some kv/\H'=upd H p (.tup [kV kv.1,kv.2]),fun i H=>kvs.length<=i/\H a=some (.frz o (.dK kvs))⟩
theorem zgk {P:Program} {w:World} {K:PySem.W.Frag} {elts:List Expr} {x1} {pos:Pos} (a it:Addr) {o:Obj} {kvs:List (Key×V)} {vs:List (Key×Value)} {es:Array DictEntry} {ep:Nat} (rel:KV kvs vs)
    (ho:o.ExactDict/\o.data = .dict es ep/\KeysOf (zbe P w) es/\Pairs (zbe P w) es.toList vs/\(vs.map (·.1)).Nodup):Turn P w K (.Tuple elts x1 pos) (Iti a o kvs) [it] it (fun i h=>∃ ok ov,IsItemIter h it a i vs.length ep ok ov) where
  mem:=by simp
  obj:=fun i h st b hb=>by
    have e:b=it:=by simpa using hb
    subst e
    obtain ⟨ok,ov,e⟩:=st
    exact ⟨_,e,fun v z=>by cases z⟩
  keep:=fun i h h' st k=>by
    obtain ⟨ok,ov,e⟩:=st
    exact ⟨ok,ov,k it (by simp) _ e⟩
  item:=by
    intro X hP hw hK hc i pins s σ H E I hf st hg
    subst hP hw hK
    obtain ⟨hi,hz⟩:=hg
    obtain ⟨ok,ov,he⟩:=st
    obtain ⟨f0,f1,f2,f3,f4,f5⟩:=hf it (by simp)
    have hkv:kvs[i]? = some (kvs[i]'hi):=List.getElem?_eq_getElem _
    have hi':i<vs.length:=by rw [<- rel.length]; exact hi
    have hv:vs[i]? = some (vs[i]'hi'):=List.getElem?_eq_getElem _
    obtain ⟨q,hq,rq⟩:=zio rel hkv
    rw [hv] at hq
    cases hq
    have da:s.heap.DictAt (zbe X.prog X.w) a vs ep:=⟨o,es,(I.hok a _ hz).1,ho⟩
    refine wpAny_pyNext_items_item (v:=(vs[i]'hi').2) he da hv fun key h' hkey ho' hT hsz hk=>?_
    refine ⟨.ref s.heap.objs.size,rfl,wpAny_letOwnedTupleGo_items ho' fun hp2 hz2 hs2=>?_⟩
    have hs2':Heap.SameBut it h' hp2:=hs2
    have nsz:s.heap.objs.size≠it:=Nat.ne_of_gt (Heap.lt_size he)
    have htup:hp2.get? s.heap.objs.size=some { cls:=.type "tuple", data:=.seq #[key,(vs[i]'hi').2] }:=(hs2'.2 _ nsz).trans hT
    have k2:∀ c o,c ∉ [it]->s.heap.get? c=some o->hp2.get? c=some o:=fun c o n q=>by
      simp only [List.mem_cons,List.not_mem_nil,or_false] at n
      exact (hs2'.2 c n).trans (hk c o n q)
    have fresh:H s.heap.objs.size=none:=I.hok.fresh (Nat.le_refl _)
    have nit:∀ c v,H c=some v->c ∉ [it]:=fun c v q h=>by
      have e:c=it:=by simpa using h
      rw [e,f0] at q; cases q
    have up:∀ c o,H c=some o->(upd H s.heap.objs.size (.tup [kV (kvs[i]'hi).1,(kvs[i]'hi).2])) c=some o:=fun c o q=>by rw [zah (zan q fresh)]; exact q
    have rk:RelV (kV (kvs[i]'hi).1) key:=by rw [rq.1]; exact kV_of hkey
    have I2:Inv X pins σ (upd H s.heap.objs.size (.tup [kV (kvs[i]'hi).1,(kvs[i]'hi).2])) { s with heap:=hp2 }:=by
      refine I.step (t':=s.toks) (g':=s.gens) (d':=s.drawn) (ch:=[it]) (fun c hc=>?_) (fun c o _ _ hc q _=>k2 c o hc q)
        (fun c o _ _ hc q _=>⟨o.slots,k2 c o hc q⟩) (fun c o _ q n=>by rw [zah (Nat.ne_of_lt (Heap.lt_size q))]; exact n)
        (fun c o hc q=>⟨o,k2 c o hc q⟩) (fun c zs q=>up c _ q) (fun c ob v q=>up c _ q) (fun c ps q=>⟨#[],by rw [up c _ q]; simp⟩) (fun m hm=>?_) (fun c v q=>?_) I.bare
      · obtain ⟨f0,f1,f2,f3,f4,f5⟩:=hf c hc
        exact ⟨f3,f1,f4,f5⟩
      · obtain ⟨o,es,ep,ho,r⟩:=hm
        refine ⟨o,es,ep,k2 _ o (fun h=>?_) ho,r⟩
        exact (hf _ h).2.1 rfl
      · by_cases hb:c=s.heap.objs.size
        · subst hb
          rw [zab] at q
          cases q
          exact ⟨by show 2<=sizeLine; decide,[key,(vs[i]'hi').2],.cons rk (.cons rq.2 .nil),_,htup,rfl,_,rfl⟩
        · rw [zah hb] at q
          refine (I.hok c v q).stay (fun d v' hd q'=>?_) (fun d y=>up d _ y) fun d zs y=>up d _ y
          refine k2 d v' ?_ q'
          rcases hd with y | y
          · rw [y]; exact nit c v q
          · exact nit d _ y
    refine ⟨.ref s.heap.objs.size,_,I2,rfl,⟨s.heap.objs.size,_,rfl,fresh,hkv,rfl⟩,⟨_,_,hz2⟩,fun c hc=>?_⟩
    have e:c=it:=by simpa using hc
    subst e
    rw [zah nsz.symm]
    exact f0
  done:=by
    intro X hP hw hK hc i pins s σ H E I hf st hg
    subst hP hw hK
    obtain ⟨hi,hz⟩:=hg
    obtain ⟨ok,ov,he⟩:=st
    obtain ⟨f0,f1,f2,f3,f4,f5⟩:=hf it (by simp)
    have da:s.heap.DictAt (zbe X.prog X.w) a vs ep:=⟨o,es,(I.hok a _ hz).1,ho⟩
    exact wpAny_pyNext_items_end (I.ok.hd hc) he da (List.getElem?_eq_none (by rw [<- rel.length]; exact hi)) fun h' eb=>⟨rfl,I.turned (t':=s.toks) (fun b o hb e=>eb b o hb e) f0 f1 f3 f4 f5⟩
  self:=fun _ _ _ _ _ st h=>by
    obtain ⟨ok,ov,he⟩:=st
    exact PySem.W.kcp_self he h
def tForI (tl:TE) (g:TG) (tb:TS):TS:=fun D σ H=>tl σ H fun x H1=>∃ a kvs,x = .ref a/\H1 a=some (.dK kvs)/\∀ o,∃ W:Nat->Nat->St->Hp->Prop,(∃ m,W 0 m σ (upd H1 a (.frz o (.dK kvs))))/\∀ i m σ H,W i m σ H ->
 H a=some (.frz o (.dK kvs))/\((kvs.length<=i/\D.nx σ (upd H a (.dK kvs)))\/(∃ kv,kvs[i]? = some kv/\∃ N:St->Hp->Prop,(∀ σ' H',N σ' H'->∃ m',m' < m/\W (i+1) m' σ' H')/\∀ p,H p=none->g (.ref p) σ (upd H p (.tup [kV kv.1,kv.2])) fun σ2 H2=>tb { D with nx:=N,ct:=N,bk:=fun _ _=>False } σ2 H2))
section
variable {X:Cx}
theorem zsj {o:Expr} {apos cpos tpos:Pos} {elts:List Expr} {x1} {body:List Stmt} {tl:TE} {g:TG} {tb:TS} {pos:Pos} (hp:PassesOwn (model X.prog X.w) X.A X.env X.xe) (hc:X.calm=true) (hl:PE X o tl) (hg:PG X (.Tuple elts x1 tpos) g) (hb:PSs X body tb)
    (hs:∀ x,foldedSetIterable (.Call (.Attribute o "items" apos) [] [] cpos) X.env x=pure x:=by intro _; rfl)
    (hbase:attributeBase o "items" X.env (eval o X.env)=eval o X.env:=by rfl) (hline:(apos.endLine == cpos.line)=true:=by rfl):PS X (.For (.Tuple elts x1 tpos) (.Call (.Attribute o "items" apos) [] [] cpos) body [] pos) (tForI tl g tb):=by
  intro pins s σ H D I h
  refine wpAny_For (wpAny_Call_method0_late hbase hline (thn (hl pins s σ H _ I h) fun v s1 ⟨x,H1,I1,r1,a,kvs,ex,ha,hall⟩=>?_)) hs
  subst ex
  obtain rfl:v=Value.ref a:=r1
  obtain ⟨t1,t2,_⟩:=zoy I1 (.inl ⟨kvs,.inl ha⟩)
  obtain ⟨z,hd,vs,rel,o',es,ep,ho,hx⟩:=dk_of I1.hok ha
  refine ⟨"dict", "dict.items", PySem.F.plainAttrs_dict,PySem.F.slot_dict_items,PySem.F.type_dict_items,t1,t2,Calls.callWith_builtin rfl (PySem.evalArgs_none ?_)⟩
  refine call_meetsIn PySem.F.slot_dict_items t1 PySem.F.entry_dict_items (PySem.F.args_dict_items_1 _) (meets_dict_items (zbe X.prog X.w) a hd) ⟨⟨vs,o',es,ep,ho,hx⟩,?_⟩
  have Iv:Inv X pins σ H1 { s1 with heap:=s1.heap.push { cls:=.type "dict_items", data:=.fields #[.ref a] } }:=I1.kept (t':=s1.toks) fun b o e=>Heap.get?_push_of_some _ e
  have hov:(s1.heap.push { cls:=.type "dict_items", data:=.fields #[.ref a] }).get? a=some o':=Heap.get?_push_of_some _ ho
  have hvw:(s1.heap.push { cls:=.type "dict_items", data:=.fields #[.ref a] }).IsItemsView s1.heap.objs.size a:=⟨_,Heap.get?_push_size _ rfl,rfl,rfl⟩
  generalize s1.heap.push { cls:=.type "dict_items", data:=.fields #[.ref a] } = hv at Iv hov hvw ⊢
  refine wpAny_pyIter_items (s:={ s1 with heap:=hv }) (knd:=zbe X.prog X.w) hvw ⟨o',es,hov,hx⟩ ?_
  obtain ⟨W,⟨m0,w0⟩,turn⟩:=hall o'
  have n0:∀ o u,X.H₀ a≠some (.frz o u):=fun o' u e=>by
    have:=I1.base.frzs a o' u e
    rw [ha] at this
    cases this
  have fresh:H1 hv.objs.size=none:=Iv.hok.fresh (Nat.le_refl _)
  have fp1:=Iv.fpOk (Nat.le_refl _) fresh
  have na:hv.objs.size≠a:=fun y=>by rw [y,ha] at fresh; cases fresh
  have I2:Inv X pins σ (upd H1 a (.frz o' (.dK kvs))) { s1 with heap:=hv.push { cls:=.type "dict_itemiterator", data:=.fields #[.none,.bool false,.ref a,.int 0 0,.int vs.length 0,.int ep 0,.none,.none] } } :=
    (Iv.kept (t':=s1.toks) fun b o e=>Heap.get?_push_of_some _ e).frozen ha (Heap.get?_push_of_some _ hov)
  have T:Turn X.prog X.w X.K (.Tuple elts x1 tpos) (Iti a o' kvs) [hv.objs.size] hv.objs.size (fun i h=>∃ ok ov,IsItemIter h hv.objs.size a i vs.length ep ok ov):=zgk a _ rel hx
  have stat:∀ {H':Hp},H' hv.objs.size=none->∀ b∈[hv.objs.size],FpOk X pins H' b:=fun hn b hb=>by
    have e:b=hv.objs.size:=by simpa using hb
    subst e
    exact ⟨hn,fp1.2⟩
  refine codeAny_forLoop_any (fun n s'=>∃ i σ' H',Inv X pins σ' H' s'/\(∃ ok ov,IsItemIter s'.heap hv.objs.size a i vs.length ep ok ov)/\H' hv.objs.size=none/\W i n σ' H') ?_ m0 ⟨0,σ,_,I2,⟨.none,.none,Heap.get?_push_size _ rfl⟩,by rw [zah na]; exact fresh,w0⟩
  rintro n s3 ⟨i,σ3,H3,I3,st3,fr3,w3⟩
  obtain ⟨hz,cs⟩:=turn i n σ3 H3 w3
  rcases cs with ⟨stop,qn⟩ | ⟨kv,hkv,N,hN,step⟩
  · refine wpAny_passesOwn hp (thn (T.done X rfl rfl rfl hc i pins s3 σ3 H3 X.xe I3 (stat fr3) st3 ⟨stop,hz⟩) fun r s4 ⟨hr,I4⟩=>?_)
    subst hr
    exact wpAny_execs_nil ⟨σ3,_,I4.thawed hz n0,qn⟩
  · refine wpAny_passesOwn hp (thn (T.item X rfl rfl rfl hc i pins s3 σ3 H3 X.xe I3 (stat fr3) st3 ⟨(List.getElem?_eq_some_iff.mp hkv).1,hz⟩) fun r s4 ⟨u,hr,h4⟩=>?_)
    subst hr
    refine wpAny_passesOwn hp (thn h4 fun _ s5 ⟨x,H5,I5,r5,⟨pt,kv',ex,hpt,hkv',eH⟩,st5,fr5⟩=>?_)
    subst eH
    rw [hkv] at hkv'
    cases hkv'
    subst ex
    have I5':=I5.pinned (stat (fr5 _ (by simp))) (T.obj _ _ st5)
    refine wpAny_passesOwn hp (thn (hg _ s5 σ3 _ _ u _ I5' r5 (step pt hpt)) fun _ s6 ⟨σ6,H6,I6,q6⟩=>?_)
    refine wpAny_passesOwn hp (thn (hb _ s6 σ6 H6 _ I6 q6) fun f s7 q7=>?_)
    have again:∀ {σ7:St} {H7:Hp},Inv X (pins++zii [hv.objs.size] s5.heap) σ7 H7 s7->N σ7 H7->∃ m,m<n/\∃ i σ' H',Inv X pins σ' H' s7/\(∃ ok ov,IsItemIter s7.heap hv.objs.size a i vs.length ep ok ov)/\H' hv.objs.size=none/\W i m σ' H':=fun {σ7 H7} I7 n7=>by
      obtain ⟨m',hm,w7⟩:=hN σ7 H7 n7
      refine ⟨m',hm,i+1,σ7,H7,I7.unpinned,T.keep _ _ _ st5 fun b hb o e=>(I7.pin (b,o) (List.mem_append_right _ (List.mem_append_right _ (zdq hb e)))).1,?_,w7⟩
      obtain ⟨o,e,d⟩:=T.obj _ _ st5 hv.objs.size (by simp)
      exact (I7.pin (_,o) (List.mem_append_right _ (List.mem_append_right _ (zdq (by simp) e)))).2.1
    cases f with
    | next=>obtain ⟨σ7,H7,I7,n7⟩:=q7; exact again I7 n7
    | cont=>obtain ⟨σ7,H7,I7,n7⟩:=q7; exact again I7 n7
    | brk=>obtain ⟨σ7,H7,I7,q7⟩:=q7; exact False.elim q7
    | ret v=>obtain ⟨x7,σ7,H7,I7,r7,q7⟩:=q7; exact ⟨x7,σ7,H7,I7.unpinned,r7,q7⟩
end
theorem zpc {a:Addr} {kvs:List (Key×V)} {o:Obj} {g:TG} {tb:TS} {D:Ends} {σ:St} {H:Hp} (Pv:Nat->St->Hp->Prop) (h0:Pv 0 σ H) (hz:∀ i σ H,i<=kvs.length->Pv i σ H->H a=some (.frz o (.dK kvs)))
    (hs:∀ i kv σ H p,kvs[i]? = some kv->Pv i σ H->H p=none->g (.ref p) σ (upd H p (.tup [kV kv.1,kv.2])) fun σ2 H2=>tb { D with nx:=Pv (i+1),ct:=Pv (i+1),bk:=fun _ _=>False } σ2 H2) (hd:∀ σ H,Pv kvs.length σ H->D.nx σ (upd H a (.dK kvs))) :
    ∃ W:Nat->Nat->St->Hp->Prop,(∃ m,W 0 m σ H)/\∀ i m σ H,W i m σ H ->
      H a=some (.frz o (.dK kvs))/\((kvs.length<=i/\D.nx σ (upd H a (.dK kvs)))\/(∃ kv,kvs[i]? = some kv/\∃ N:St->Hp->Prop,(∀ σ' H',N σ' H'->∃ m',m' < m/\W (i+1) m' σ' H')/\∀ p,H p=none->g (.ref p) σ (upd H p (.tup [kV kv.1,kv.2])) fun σ2 H2=>tb { D with nx:=N,ct:=N,bk:=fun _ _=>False } σ2 H2)):=by
  refine ⟨fun i m σ H=>m=kvs.length-i/\i<=kvs.length/\Pv i σ H,⟨kvs.length,by simp,Nat.zero_le _,h0⟩,?_⟩
  rintro i m σ H ⟨rfl,hi,p⟩
  refine ⟨hz i σ H hi p,?_⟩
  by_cases hlt:i<kvs.length
  · exact .inr ⟨kvs[i],by simp [hlt],Pv (i+1),fun σ' H' p'=>⟨kvs.length-(i+1),by omega,rfl,hlt,p'⟩,fun q hq=>hs i _ σ H q (by simp [hlt]) p hq⟩
  · have e:i=kvs.length:=by omega
    subst e
    exact .inl ⟨Nat.le_refl _,hd σ H p⟩
section
variable {X:Cx} {pins:List (Addr×Obj)} {σ:St} {H:Hp} {s:Shared} {a vw:Addr} {kvs:List (Key×V)} {Q:VK}
end
end L2
namespace L2
open PySem PySem.Spec PyProof.Rows
section
variable {X:Cx}
end
end L2
namespace L2
open PySem PySem.Spec PyProof.Rows
section
variable {X:Cx}
end
def zrn (tl:TE):TI:=fun σ H R=>tl σ H fun x H1=>∃ a kvs,x = .ref a/\H1 a=some (.dK kvs)/\∀ o,R (Iti a o kvs) (upd H1 a (.frz o (.dK kvs)))
section
variable {X:Cx}
theorem zqo {o:Expr} {apos cpos tpos:Pos} {elts:List Expr} {x1} {tl:TE} (hl:PE X o tl) (hbase:attributeBase o "items" X.env (eval o X.env)=eval o X.env:=by rfl) (hline:(apos.endLine == cpos.line)=true:=by rfl) :
    PI X (.Tuple elts x1 tpos) (.Call (.Attribute o "items" apos) [] [] cpos) (zrn tl):=by
  intro pins s σ H R I h
  refine wpAny_Call_method0_late hbase hline (thn (hl pins s σ H _ I h) fun v s1 ⟨x,H1,I1,r1,a,kvs,ex,ha,hall⟩=>?_)
  subst ex
  obtain rfl:v=Value.ref a:=r1
  obtain ⟨t1,t2,_⟩:=zoy I1 (.inl ⟨kvs,.inl ha⟩)
  obtain ⟨z,hd,vs,rel,o',es,ep,ho,hx⟩:=dk_of I1.hok ha
  refine ⟨"dict", "dict.items", PySem.F.plainAttrs_dict,PySem.F.slot_dict_items,PySem.F.type_dict_items,t1,t2,Calls.callWith_builtin rfl (PySem.evalArgs_none ?_)⟩
  refine call_meetsIn PySem.F.slot_dict_items t1 PySem.F.entry_dict_items (PySem.F.args_dict_items_1 _) (meets_dict_items (zbe X.prog X.w) a hd) ⟨⟨vs,o',es,ep,ho,hx⟩,?_⟩
  have Iv:Inv X pins σ H1 { s1 with heap:=s1.heap.push { cls:=.type "dict_items", data:=.fields #[.ref a] } }:=I1.kept (t':=s1.toks) fun b o e=>Heap.get?_push_of_some _ e
  have hov:(s1.heap.push { cls:=.type "dict_items", data:=.fields #[.ref a] }).get? a=some o':=Heap.get?_push_of_some _ ho
  have hvw:(s1.heap.push { cls:=.type "dict_items", data:=.fields #[.ref a] }).IsItemsView s1.heap.objs.size a:=⟨_,Heap.get?_push_size _ rfl,rfl,rfl⟩
  generalize s1.heap.push { cls:=.type "dict_items", data:=.fields #[.ref a] } = hv at Iv hov hvw ⊢
  refine wpAny_pyIter_items (s:={ s1 with heap:=hv }) (knd:=zbe X.prog X.w) hvw ⟨o',es,hov,hx⟩ ?_
  have fresh:H1 hv.objs.size=none:=Iv.hok.fresh (Nat.le_refl _)
  have na:hv.objs.size≠a:=fun y=>by rw [y,ha] at fresh; cases fresh
  have I2:Inv X pins σ (upd H1 a (.frz o' (.dK kvs))) { s1 with heap:=hv.push { cls:=.type "dict_itemiterator", data:=.fields #[.none,.bool false,.ref a,.int 0 0,.int vs.length 0,.int ep 0,.none,.none] } } :=
    (Iv.kept (t':=s1.toks) fun b o e=>Heap.get?_push_of_some _ e).frozen ha (Heap.get?_push_of_some _ hov)
  refine ⟨hv.objs.size,[hv.objs.size],_,_,_,rfl,I2,zgk a _ rel hx,⟨.none,.none,Heap.get?_push_size _ rfl⟩,fun b hb=>?_,hall o'⟩
  have e:b=hv.objs.size:=by simpa using hb
  subst e
  have fp1:=Iv.fpOk (Nat.le_refl _) fresh
  exact ⟨by rw [zah na]; exact fresh,fp1.2⟩
def tThaw (t:TE):TE:=fun σ H Q=>t σ H fun x H'=>∃ a o kvs kvs',H a=some (.dK kvs')/\H' a=some (.frz o (.dK kvs))/\Q x (upd H' a (.dK kvs))
theorem zsk {e:Expr} {t:TE} (h:PE X e t):PE X e (tThaw t):=by
 intro pins s σ H Q I q
 refine thn (h pins s σ H _ I q) fun v s1 ⟨x,H1,I1,r1,a,o,kvs,kvs',h0,h1,q1⟩=>?_
 refine ⟨x,_,I1.thawed h1 fun o' u e=>?_,r1,q1⟩
 have:=I.base.frzs a o' u e
 rw [h0] at this
 cases this
end
theorem zir {a:Addr} {kvs:List (Key×V)} {o:Obj} {g:TG} {tc:TT} {te:TE} {D:Addr} {τ:St} {H:Hp} {Q:VK} (Pv:Nat->St->Hp->Prop) (h0:Pv 0 τ H) (hz:∀ i τ H,i<=kvs.length->Pv i τ H->H a=some (.frz o (.dK kvs)))
    (hs:∀ i kv τ H p,kvs[i]? = some kv->Pv i τ H->H p=none->g (.ref p) τ (upd H p (.tup [kV kv.1,kv.2])) fun τ2 H3=>tc τ2 H3 fun b H4=>if b=true then te τ2 H4 fun y H5=>∃ ys,H5 D=some (.lst ys)/\ys.length<sizeLine/\Pv (i+1) τ2 (upd H5 D (.lst (ys++[y]))) else Pv (i+1) τ2 H4)
    (hd:∀ τ H,Pv kvs.length τ H->Q (.ref D) H):CompG (Iti a o kvs) g tc te D τ H Q:=by
  refine ⟨fun i m τ H=>m=kvs.length-i/\i<=kvs.length/\Pv i τ H,⟨kvs.length,by simp,Nat.zero_le _,h0⟩,?_⟩
  rintro i m τ H ⟨rfl,hi,p⟩
  have q:=hz i τ H hi p
  by_cases hlt:i<kvs.length
  · refine .inr ⟨⟨hlt,q⟩,Pv (i+1),fun τ' H' p'=>⟨kvs.length-(i+1),by omega,rfl,hlt,p'⟩,fun x H2 z=>?_⟩
    obtain ⟨b,kv,rfl,hb,hkv,rfl⟩:=z
    exact hs i kv τ H b hkv p hb
  · have e:i=kvs.length:=by omega
    subst e
    exact .inl ⟨⟨Nat.le_refl _,q⟩,hd τ H p⟩
theorem zbv {K:PySem.W.Frag} {H:Hp}:∀ (ns:List Str),DeepAll K H (ns.map V.str) (ns.map PyData.str)
 | []=>.nil
 | _ :: r=>.cons (.str _) (zbv r)
end L2
namespace L2
open PySem PySem.Spec PyProof.Rows
def optS:Option Str->V
 | none=>.non
 | some x=>.str x
structure FR (fs:List (Str×V)) (most:Int) (pm:Addr) (ch:V) (pt pg:Addr) (tu:Option Str):Prop where
 mo:fs.lookup ("most" : Str)=some (.int most)
 me:fs.lookup ("members" : Str)=some (.ref pm)
 ch:fs.lookup ("chosen" : Str)=some ch
 qu:fs.lookup ("queue" : Str)=some (.ref pt)
 re:fs.lookup ("rests" : Str)=some (.ref pg)
 tu:fs.lookup ("turn" : Str)=some (optS tu)
 no:∀ m:Str,¬ m = "most" -> ¬ m = "members" -> ¬ m = "chosen" -> ¬ m = "queue" -> ¬ m = "rests" -> ¬ m = "turn" -> fs.lookup m=none
 len:fs.length<900
theorem FR.mk0 (most:Int) (pm:Addr) (ch:V) (pt pg:Addr):FR (putF "turn" .non (putF "rests" (.ref pg) (putF "queue" (.ref pt) (putF "chosen" ch (putF "members" (.ref pm) (putF "most" (.int most) [])))))) most pm ch pt pg none:=by
 refine ⟨?_,?_,?_,?_,?_,?_,fun m h1 h2 h3 h4 h5 h6=>?_,?_⟩
 ·rw [zaj (by decide +kernel),zaj (by decide +kernel),zaj (by decide +kernel),zaj (by decide +kernel),zaj (by decide +kernel),zbr]
 ·rw [zaj (by decide +kernel),zaj (by decide +kernel),zaj (by decide +kernel),zaj (by decide +kernel),zbr]
 ·rw [zaj (by decide +kernel),zaj (by decide +kernel),zaj (by decide +kernel),zbr]
 ·rw [zaj (by decide +kernel),zaj (by decide +kernel),zbr]
 ·rw [zaj (by decide +kernel),zbr]
 ·rw [zbr]; rfl
 ·rw [zaj h6,zaj h5,zaj h4,zaj h3,zaj h2,zaj h1]; rfl
 ·have a1:=zal (fs:=[]) (f := "most") (v:=.int most)
  have a2:=zal (fs:=putF "most" (.int most) []) (f := "members") (v:=.ref pm)
  have a3:=zal (fs:=putF "members" (.ref pm) (putF "most" (.int most) [])) (f := "chosen") (v:=ch)
  have a4:=zal (fs:=putF "chosen" ch (putF "members" (.ref pm) (putF "most" (.int most) []))) (f := "queue") (v:=.ref pt)
  have a5:=zal (fs:=putF "queue" (.ref pt) (putF "chosen" ch (putF "members" (.ref pm) (putF "most" (.int most) [])))) (f := "rests") (v:=.ref pg)
  have a6:=zal (fs:=putF "rests" (.ref pg) (putF "queue" (.ref pt) (putF "chosen" ch (putF "members" (.ref pm) (putF "most" (.int most) []))))) (f := "turn") (v:=.non)
  simp only [List.length_nil] at a1
  omega
structure Rx (C Cm:Addr) (H:Hp) (a:At5) (most:Int) (nm:Nm) (q:List Str) (rs:Nm) (tu:Option Str) (ch:V):Prop where
 ex:∃ dx fs,H a.p=some (.ins C dx fs)/\FR fs most a.pm ch a.pt a.pg tu
 mb:Mb Cm H a.pm a.ps nm
 hq:H a.pt=some (.lst (q.map V.str))
 hr:H a.pg=some (.dK (kvsOf rs))
 n3:a.pg≠a.ps
 n4:a.p≠a.pm
section
variable {C Cm:Addr} {H H':Hp} {a:At5} {most:Int} {nm nm':Nm} {q q':List Str} {rs rs':Nm} {tu tu':Option Str} {ch ch':V}
theorem Rx.set_q (S:Rx C Cm H a most nm q rs tu ch):Rx C Cm (upd H a.pt (.lst (q'.map V.str))) a most nm q' rs tu ch:=by
 obtain ⟨dx,fs,h1,h2⟩:=S.ex
 obtain ⟨dm,fm,m1,m2⟩:=S.mb.ex
 have kp:∀ b o,b≠a.pt->H b=some o->upd H a.pt (.lst (q'.map V.str)) b=some o:=fun b o n e=>by rw [zah n]; exact e
 exact ⟨⟨dx,fs,kp _ _ (ne_of h1 S.hq (by intro z; cases z)) h1,h2⟩,⟨⟨dm,fm,kp _ _ (ne_of m1 S.hq (by intro z; cases z)) m1,m2⟩,kp _ _ (ne_of S.mb.hs S.hq (by intro z; cases z)) S.mb.hs⟩,zab,kp _ _ (ne_of S.hr S.hq (by intro z; cases z)) S.hr,S.n3,S.n4⟩
theorem Rx.set_r (S:Rx C Cm H a most nm q rs tu ch):Rx C Cm (upd H a.pg (.dK (kvsOf rs'))) a most nm q rs' tu ch:=by
 obtain ⟨dx,fs,h1,h2⟩:=S.ex
 obtain ⟨dm,fm,m1,m2⟩:=S.mb.ex
 have kp:∀ b o,b≠a.pg->H b=some o->upd H a.pg (.dK (kvsOf rs')) b=some o:=fun b o n e=>by rw [zah n]; exact e
 exact ⟨⟨dx,fs,kp _ _ (ne_of h1 S.hr (by intro z; cases z)) h1,h2⟩,⟨⟨dm,fm,kp _ _ (ne_of m1 S.hr (by intro z; cases z)) m1,m2⟩,kp _ _ S.n3.symm S.mb.hs⟩,kp _ _ (ne_of S.hq S.hr (by intro z; cases z)) S.hq,zab,S.n3,S.n4⟩
theorem Rx.set_s (S:Rx C Cm H a most nm q rs tu ch):Rx C Cm (upd H a.ps (.dK (kvsOf nm'))) a most nm' q rs tu ch:=by
 obtain ⟨dx,fs,h1,h2⟩:=S.ex
 have g1:=S.mb.hs
 have kp:∀ b o,b≠a.ps->H b=some o->upd H a.ps (.dK (kvsOf nm')) b=some o:=fun b o n e=>by rw [zah n]; exact e
 exact ⟨⟨dx,fs,kp _ _ (ne_of h1 g1 (by intro z; cases z)) h1,h2⟩,S.mb.put,kp _ _ (ne_of S.hq g1 (by intro z; cases z)) S.hq,kp _ _ S.n3 S.hr,S.n3,S.n4⟩
theorem Rx.meth {m:Str} {Z:Prop} (S:Rx C Cm H a most nm q rs tu ch) (h:¬ m = "most" /\ ¬ m = "members" /\ ¬ m = "chosen" /\ ¬ m = "queue" /\ ¬ m = "rests" /\ ¬ m = "turn") (z:Z):rMeth C m (.ref a.p) H Z:=by
 obtain ⟨dx,fs,hp,ft⟩:=S.ex
 exact zbp hp (ft.no _ h.1 h.2.1 h.2.2.1 h.2.2.2.1 h.2.2.2.2.1 h.2.2.2.2.2) z
end
end L2
namespace Sw
open L2 PySem
theorem sh_mem {nm:Nm} {x:Str}:shOf nm x≠none↔x∈nm.map (·.1):=by
 constructor
 ·intro h
  cases e:shOf nm x with
  | none=>exact absurd e h
  | some s=>exact List.mem_map.mpr ⟨_,zqn e,rfl⟩
 ·intro h
  obtain ⟨p,hp,e⟩:=List.mem_map.mp h
  have:(x,p.2)∈nm:=by rw [<- e]; exact hp
  exact zlo this
theorem sh_none {nm:Nm} {x:Str}:shOf nm x=none↔x ∉ nm.map (·.1):=by
 constructor
 ·exact fun h z=>sh_mem.mpr z h
 ·intro h
  cases e:shOf nm x with
  | none=>rfl
  | some s=>exact absurd (sh_mem.mp (by rw [e]; simp)) h
structure RI (most:Int) (nm:Nm) (q:List Str) (rs:Nm) (tu:Option Str):Prop where
 m0:1<=most
 ks:rs.map (·.1)=nm.map (·.1)
 nd:(nm.map (·.1)).Nodup
 pm:(q++tu.toList).Perm (nm.map (·.1))
 sh:∀ x s,shOf nm x=some s->1<=s/\s<=1000000
 bd:∀ x s,shOf nm x=some s->∃ r,shOf rs x=some r/\0-most<r/\r<=s*most/\(0<r->tu=some x)
section
variable {most:Int} {nm:Nm} {q:List Str} {rs:Nm} {tu:Option Str}
theorem RI.nil (h:1<=most):RI most [] [] [] none:=⟨h,rfl,.nil,.refl _,fun x s e=>(by cases e),fun x s e=>(by cases e)⟩
theorem RI.put (h:RI most nm q rs tu) {x:Str} {s:Int} (hx:shOf nm x=none) (s0:1<=s) (s1:s<=1000000):RI most (nm++[(x,s)]) (q++[x]) (rs++[(x,0)]) tu:=by
 have hr:shOf rs x=none:=by rw [sh_none,h.ks,<- sh_none]; exact hx
 refine ⟨h.m0,?_,?_,?_,fun y t e=>?_,fun y t e=>?_⟩
 ·rw [List.map_append,List.map_append,h.ks]; rfl
 ·rw [List.map_append]
  refine List.nodup_append.mpr ⟨h.nd,by simp,fun a ha b hb=>?_⟩
  have:b=x:=by simpa using hb
  subst this
  exact fun z=>sh_none.mp hx (z ▸ ha)
 ·rw [List.map_append]
  have:=h.pm.append_right [x]
  refine List.Perm.trans ?_ this
  rw [List.append_assoc,List.append_assoc]
  exact List.Perm.append_left _ List.perm_append_comm
 ·rw [zfw hx] at e
  split at e
  ·cases e; exact ⟨s0,s1⟩
  ·exact h.sh y t e
 ·rw [zfw hx] at e
  rw [zfw hr]
  have m0:=h.m0
  split at e
  ·rename_i c
   cases e
   rw [if_pos c]
   have:=Int.mul_le_mul s0 h.m0 (by omega) (by omega)
   exact ⟨0,rfl,by omega,by omega,fun z=>absurd z (by decide)⟩
  ·rename_i c
   rw [if_neg c]
   exact h.bd y t e
end
end Sw
namespace L2
open PySem PySem.Spec PyProof.Rows
section
variable {X:Cx}
theorem zqp {x:Str} {j} {p:Pos} {es:List Expr} {t:TA} (hr:PA X es t):PA X (.Constant (.str x) j p :: es) (tCons (tC (.str x)) t):=zaa zaq hr rfl
end
end L2
namespace L2
open PySem PySem.Spec PyProof.Rows
end L2
namespace L2
open PySem PySem.Spec PyProof.Rows
section
variable {X:Cx}
end
end L2
namespace L2
open PySem PySem.Spec PyProof.Rows
def tOrE (t1 t2:TE):TE:=fun σ H Q=>t1 σ H Q\/t2 σ H Q
section
variable {X:Cx}
theorem zpd {e:Expr} {t1 t2:TE} (h1:PE X e t1) (h2:PE X e t2):PE X e (tOrE t1 t2):=fun pins s σ H Q I h=>h.elim (h1 pins s σ H Q I) (h2 pins s σ H Q I)
end
end L2
namespace L2
open PySem PySem.Spec PyProof.Rows
section
variable {X:Cx}
end
end L2
namespace L2
open PySem PySem.Spec PyProof.Rows
def sg (c:Nat):Str:=⟨#[c]⟩
def Its (z:Str):It:=⟨fun i _=>i<z.length,fun i H x H'=>H'=H/\∃ c,z.cps.toList[i]? = some c/\x = .str (sg c),fun i _=>z.length<=i⟩
theorem zqq {P:Program} {w:World} {K:PySem.W.Frag} {tg:Expr} (it:Addr) (z:Str) (t:Tok) (ty:String) (hty:ty = "str_ascii_iterator" \/ ty = "str_iterator"):Turn P w K tg (Its z) [it] it (fun i h=>h.IsStrIter it ty z t i) where
 mem:=by simp
 obj:=fun i h st b hb=>by
  have e:b=it:=by simpa using hb
  subst e
  obtain ⟨o,e,c,d⟩:=st
  exact ⟨o,e,fun v z=>by rw [d] at z; cases z⟩
 keep:=fun i h h' st k=>by
  obtain ⟨o,e,r⟩:=st
  exact ⟨o,k it (by simp) o e,r⟩
 item:=by
  intro X hP hw hK hc i pins s σ H E I hf st hg
  subst hP hw hK
  obtain ⟨f0,f1,f2,f3,f4,f5⟩:=hf it (by simp)
  have hg:i<z.cps.size:=hg
  have W:Walks X.prog X.w X.A it [it] [it] z.cps.size (SignAt z) (fun i h=>h.IsStrIter it ty z t i):=by
   rcases hty with rfl | rfl
   ·exact Walks.strAscii (I.ok.hd hc) it z t
   ·exact Walks.strWide (I.ok.hd hc) it z t
  refine W.item i s _ _ hg st fun v h' tk hv st' kk=>?_
  obtain ⟨c,u,hc1,rfl⟩:=hv
  have I1:Inv X pins σ H { s with heap:=h',toks:=tk }:=I.turned (fun b o hb e=>kk b o (by simpa using hb) e) f0 f1 f3 f4 f5
  obtain ⟨o,e,c1,d⟩:=id st'
  refine ⟨_,rfl,go_of (s:={ s with heap:=h',toks:=tk }) e c1 d (by rcases hty with rfl | rfl <;> decide) ⟨.str (sg c),H,I1,⟨u,rfl⟩,⟨rfl,c,by rw [Array.getElem?_toList]; exact hc1,rfl⟩,st',fun b hb=>(hf b hb).1⟩⟩
 done:=by
  intro X hP hw hK hc i pins s σ H E I hf st hg
  subst hP hw hK
  obtain ⟨f0,f1,f2,f3,f4,f5⟩:=hf it (by simp)
  have hg:z.cps.size<=i:=hg
  rcases hty with rfl | rfl
  ·exact wpAny_pyNext_ascii_end (I.ok.hd hc) st (by simpa using hg) fun h' eb=>⟨rfl,I.turned (t':=s.toks) (fun b o hb e=>eb b o hb e) f0 f1 f3 f4 f5⟩
  ·exact wpAny_pyNext_wide_end (I.ok.hd hc) st (by simpa using hg) fun h' eb=>⟨rfl,I.turned (t':=s.toks) (fun b o hb e=>eb b o hb e) f0 f1 f3 f4 f5⟩
 self:=fun _ _ _ _ _ st h=>by
  rcases hty with rfl | rfl
  ·exact wpAny_pyIter_striter_ascii st h
  ·exact wpAny_pyIter_striter_wide st h
section
variable {X:Cx} {tg:Expr}
def iStr (tl:TE):TI:=fun σ H R=>tl σ H fun x H1=>∃ z,x = .str z/\R (Its z) H1
theorem zro {l:Expr} {tl:TE} (hl:PE X l tl):PI X tg l (iStr tl):=by
 intro pins s σ H R I h
 refine thn (hl pins s σ H _ I h) fun v s1 ⟨x,H1,I1,r1,q1⟩=>?_
 obtain ⟨z,rfl,q⟩:=q1
 obtain ⟨t,rfl⟩:=r1
 have fin:∀ ty,(ty = "str_ascii_iterator" \/ ty = "str_iterator")->PIE X pins σ tg R (.ref s1.heap.objs.size) { s1 with heap:=s1.heap.push { cls:=.type ty,data:=.fields #[.str z t,.int 0 0] } }:=fun ty hty=>by
  refine ⟨s1.heap.objs.size,[s1.heap.objs.size],_,_,H1,rfl,I1.kept (t':=s1.toks) fun b o e=>Heap.get?_push_of_some _ e,zqq _ z t ty hty,⟨_,Heap.get?_push_size _ rfl,rfl,rfl⟩,fun b hb=>?_,q⟩
  have e:b=s1.heap.objs.size:=by simpa using hb
  subst e
  exact I1.fpOk (Nat.le_refl _) (I1.hok.fresh (Nat.le_refl _))
 cases ha:z.cps.all (· < 128)
 ·exact wpAny_pyIter_wide ha (fin _ (.inr rfl))
 ·exact wpAny_pyIter_ascii ha (fin _ (.inl rfl))
end
theorem zmn {z:Str} {g:TG} {tc:TT} {te:TE} {D:Addr} {τ:St} {H:Hp} {Q:VK} (Pv:Nat->St->Hp->Prop) (h0:Pv 0 τ H)
    (hs:∀ i c τ H,z.cps.toList[i]? = some c->Pv i τ H->g (.str (sg c)) τ H fun τ2 H3=>tc τ2 H3 fun b H4=>if b=true then te τ2 H4 fun y H5=>∃ ys,H5 D=some (.lst ys)/\ys.length<sizeLine/\Pv (i+1) τ2 (upd H5 D (.lst (ys++[y]))) else Pv (i+1) τ2 H4)
    (hd:∀ τ H,Pv z.length τ H->Q (.ref D) H):CompG (Its z) g tc te D τ H Q:=by
  refine ⟨fun i m τ H=>m=z.length-i/\i<=z.length/\Pv i τ H,⟨z.length,by simp,Nat.zero_le _,h0⟩,?_⟩
  rintro i m τ H ⟨rfl,hi,p⟩
  by_cases hlt:i<z.length
  · refine .inr ⟨hlt,Pv (i+1),fun τ' H' p'=>⟨z.length-(i+1),by omega,rfl,hlt,p'⟩,fun x H' y=>?_⟩
    obtain ⟨e,c,hc,y⟩:=y
    subst e y
    exact hs i c τ H' hc p
  · have:i=z.length:=by omega
    subst this
    exact .inl ⟨Nat.le_refl _,hd _ _ p⟩
theorem zkn:∀ {zs:List Str} {us:List Value},Vals (zs.map V.str) us->∃ l:List (Str×Tok),us=strValues l/\l.map (·.1)=zs
 | [],_,h=>by cases h; exact ⟨[],rfl,rfl⟩
 | z :: r,_,h=>by
  cases h with
  | cons h t =>
   obtain ⟨tk,rfl⟩:=h
   obtain ⟨l,e1,e2⟩:=zkn t
   exact ⟨(z,tk) :: l,by rw [e1]; rfl,by rw [List.map_cons,e2]⟩
def rJoin (K:PySem.W.Frag):V->List V->Hp->VK->Prop:=fun x vs H Q=>∃ (z:Str) (l:Addr) (zs:List Str),x = .str z/\vs = [.ref l]/\H l=some (.lst (zs.map V.str))/\JoinOk z zs=true/\Q (.str (Txt.join z zs)) H
section
variable {X:Cx}
theorem zsl (K:PySem.W.Frag):MtR X "str.join" (rJoin K):=by
 intro pins s σ H x vs v us Q I rx rv h
 obtain ⟨z,l,zs,rfl,rfl,hl,ok,q⟩:=h
 obtain ⟨t,rfl⟩:=rx
 obtain ⟨u,rfl,ru⟩:=rv.one
 cases ru
 obtain ⟨lz,its,n,r,hn,e⟩:=I.lstM hl
 obtain ⟨ps,rfl,hp⟩:=zkn r
 exact SC.join (D:=l) (l:=ps) (texts:=zs) ⟨_,e,rfl,_,rfl⟩ hp ok fun t' k=>⟨.str _,H,I.tok _,⟨_,rfl⟩,q⟩
def rInS:R2:=fun x y H Q=>∃ z w,x = .str z/\y = .str w/\Q (.bl (Txt.contains w z)) H
def zsm:R2:=fun x y H Q=>∃ z w,x = .str z/\y = .str w/\Q (.bl (!Txt.contains w z)) H
theorem zuc:OpR X (compareOp .In) rInS:=by
 intro pins s σ H x y v u Q I rx ry h
 obtain ⟨z,w,rfl,rfl,q⟩:=h
 obtain ⟨t,rfl⟩:=rx
 obtain ⟨t',rfl⟩:=ry
 exact SB.contains ⟨.bl _,H,I,rfl,q⟩
theorem zpe:OpR X (compareOp .NotIn) zsm:=by
 intro pins s σ H x y v u Q I rx ry h
 obtain ⟨z,w,rfl,rfl,q⟩:=h
 obtain ⟨t,rfl⟩:=rx
 obtain ⟨t',rfl⟩:=ry
 exact SB.notContains ⟨.bl _,H,I,rfl,q⟩
end
end L2
namespace L2
open PySem PySem.Spec PyProof.Rows
theorem zfb {X:Cx} {x z:Str} {pos:Pos} (hg:Gl X x) (hm:∃ t,X.mg x=some (.str z t)) (hd:(x == ("__debug__" : Str))=false:=by decide):PE X (.Name x pos) (tC (.str z)):=by
 obtain ⟨t,hm⟩:=hm
 exact zee hg hm ⟨t,rfl⟩ hd
end L2
namespace L2
open PySem PySem.Spec PyProof.Rows
section
variable {M:Model} {A:Around} {E:Value->Shared->Prop} {s:Shared} {B:Heap} {env:Env} {outer:List Env} {L e:Addr} {cls:Value} {dct:Option Addr}
end
section
variable {X:Cx} {pins:List (Addr×Obj)} {σ:St} {H H':Hp} {s:Shared} {h':Heap}
end
section
variable {P:Program} {w:World} {X:Cx} {scope:Scope} {cl:List (Str×Addr)} {N:List Str} {Ek:XH} {fp:List Addr} {s s':Shared} {H H':Hp} {pins:List (Addr×Obj)} {τ:St}
end
section
variable {P:Program} {w:World} {K:PySem.W.Frag} {mg:Str->Option Value} {base:Heap} {N:List Str} {qual:Str} {sc:Scope} {f:Addr} {cd:Value} {A:Around} {outer:List Env} {s₀:Shared} {H₀:Hp} {E:XK}
end
end L2
namespace Sw
open PySem L2
def figs:Str:=Str.ofString "0123456789"
theorem in_str (x:Str) (c:Nat):Txt.contains x (sg c)=decide (c∈x.cps.toList):=StrLaws.found_one x c
theorem len_list (x:Str):x.cps.toList.length=x.length:=Array.length_toList
def zrp (z:Str):Prop:=z.cps.toList[0]? = some 48/\1<z.length
def Digs (z:Str):Prop:=∀ c∈z.cps.toList,c∈figs.cps.toList
instance (z:Str):Decidable (zrp z):=by unfold zrp; exact inferInstance
instance (z:Str):Decidable (Digs z):=by unfold Digs; exact inferInstance
def N13 (n:Int):Prop:=0<=n/\n<10000000000000
def N4 (q:Q4):Prop:=N13 q.1/\N13 q.2.1/\N13 q.2.2.1/\N13 q.2.2.2
theorem join_eq (sep:Str) (zs:List Str):Txt.join sep zs=Str.join sep zs:=StrLaws.glued_eq_join sep zs
theorem zko {zs:List Str} {m:Nat} (h:∀ z∈zs,z.length<=m):(zs.map (·.length)).sum<=m*zs.length:=by
 induction zs with
 | nil=>exact Nat.zero_le _
 | cons z r ih =>
  have h1:=h z (by simp)
  have h2:=ih fun y hy=>h y (List.mem_cons_of_mem _ hy)
  rw [List.map_cons,List.sum_cons,List.length_cons,Nat.mul_add]
  omega
theorem join_ok {sep:Str} {zs:List Str} {m:Nat} (h:∀ z∈zs,z.length<=m) (hm:m<=2000) (hl:zs.length<=200) (hs:sep.length<=16):JoinOk sep zs=true:=by
 refine PyProof.Rows.joinOk_of_weight ?_ hs
 have h1:=zko h
 have:=Nat.mul_le_mul hm hl
 omega
theorem join_len {sep:Str} {zs:List Str} {m:Nat} (h:∀ z∈zs,z.length<=m):(Txt.join sep zs).length<=(m+sep.length)*zs.length:=by
 rw [join_eq]
 have h1:=StrLaws.join_length_le sep zs
 have h2:=zko h
 rw [Nat.add_mul]
 have:zs.length*sep.length=sep.length*zs.length:=Nat.mul_comm _ _
 omega
end Sw
namespace PySem
open Sem (wp)
open Builtin Builtin.Str Builtin.Int
namespace F
end F
section
variable {prog:Program} {w:World} {A:Around} {E:Value->Shared->Prop} {s:Shared} {I:Addr} {fp wr:List Addr} {G:Array GenState->Array GenState->Prop} {n:Nat} {P:Nat->Value->Prop} {St:Nat->Shared->Prop}
end
end PySem
namespace L2
open PySem PySem.Spec PyProof.Rows
section
variable {X:Cx}
end
structure PAx (X:Cx) (es:List Expr) (t:TA):Prop where
 h:PA X es t
section
variable {X:Cx}
theorem zrq:PAx X [] tNil:=⟨zag⟩
theorem zcm {x:Str} {j} {p:Pos} {es:List Expr} {t:TA} (hr:PAx X es t):PAx X (.Constant (.str x) j p :: es) (tCons (tC (.str x)) t):=⟨zqp hr.h⟩
structure PEx (X:Cx) (e:Expr) (t:TE):Prop where
 h:PE X e t
structure PSx (X:Cx) (st:Stmt) (t:TS):Prop where
 h:PS X st t
structure PSsx (X:Cx) (b:List Stmt) (t:TS):Prop where
 h:PSs X b t
theorem zpf {es:List Expr} {t:TA} {pos:Pos} (h:PAx X es t):PEx X (.List es pos) (tLst t):=⟨zdg h.h⟩
theorem zcv {st:Stmt} {t:TS} (h:PS X st t):PSx X st t:=⟨h⟩
theorem zpg {i:Nat} {x:Str} {e:Expr} {te:TE} {pos' pos:Pos} (hN:X.N.Nodup) (hi:X.N[i]? = some x) (hx:Loc X.env.scope x) (he:PEx X e te) (hs:swapsWith e (some (.Name x pos')) pos.line X.env=pure false:=by first | kernel_rfl | rfl) (hf:X.fn x=true\/X.env.scope.names.lookup x=some .local:=by first | exact .inl rfl | exact .inr rfl | assumption) :
    PSx X (.Assign [.Name x pos'] e pos) (tAsg te (gName i)):=⟨zau hN hi hx he.h hs hf⟩
theorem zjf {st:Stmt} {t:TS} (h:PSx X st t):PSsx X [st] t:=⟨zaf h.h⟩
theorem zbg {st:Stmt} {t:TS} {rest:List Stmt} {u:TS} (h1:PSx X st t) (h2:PSsx X rest u):PSsx X (st :: rest) (tSeq t u):=⟨zae h1.h h2.h⟩
theorem ex_x {b:List Stmt} {r:TS->Prop} (h:∃ t,PSsx X b t/\r t):∃ t,PSs X b t/\r t:=h.imp fun _ q=>⟨q.1.h,q.2⟩
end
end L2
namespace Sw
open PySem L2 PyProof.Rows
def Below (h:Str):Prop:=h.cps.toList[0]? = some 45
instance (h:Str):Decidable (Below h):=by unfold Below; exact inferInstance
end Sw
namespace L2
open PySem PySem.Spec PyProof.Rows
end L2
namespace Sw
open PySem L2 PyProof.Rows
abbrev dg (n:Nat):List Char:=Nat.toDigits 10 n
end Sw
namespace L2
open PySem PySem.Spec PyProof.Rows
section
variable {X:Cx}
theorem zmo {o e:Expr} {es:List Expr} {to:TE} {t:TA} {name:Str} {apos cpos:Pos} {T id:String} {r:V->List V->Hp->VK->Prop} (K:PySem.W.Frag) (hK:X.K=K) (pa:PlainAttrs T) (slot:Slot T name id) (hty:typeOf (.builtin id)=pure (.type "method_descriptor")) (hm:MtR X id r) (ho:PE X o to) (ha:PA X (e :: es) t)
    (hbase:attributeBase o name X.env (eval o X.env)=eval o X.env:=by rfl)
    (hfew:((backTo cpos (starEach (e :: es) X.env)).all (fun x=>!x.1) && (backToKw cpos (keywordEach [] X.env)).all (fun x=>x.1.isSome)
      && decide ((e :: es).length+([]:List Keyword).length+(if ([]:List Keyword).isEmpty then 0 else 1)<30))=true:=by rfl)
    (hline:(apos.endLine == cpos.line)=true:=by rfl) (hs:starEach (e :: es) X.env=(false,eval e X.env) :: starEach es X.env:=by rfl) (hplain:(backTo cpos (starEach es X.env)).any (·.1)=false:=by rfl) :
    PE X (.Call (.Attribute o name apos) (e :: es) [] cpos) (tBM K T r to t):=hK ▸ pe_bm pa slot hty hm ho ha hbase hfew hline hs hplain
end
end L2
namespace L2
open PySem PySem.Spec PyProof.Rows PySem.MeetsSeq
def zsn:V->List V->Hp->VK->Prop:=fun x vs H Q=>∃ (l:Addr) (bs:List Bool) (b:Bool),x = .ref l/\vs = [.bl b]/\H l=some (.lst (bs.map V.bl))/\Q (.int ((bs.count b:Nat):Int)) H
def isB (b:Bool):Value->Bool
 | .bool c=>c == b
 | _=>false
section
variable {X:Cx}
theorem zph (hu:X.A.units+66<cLine):MtR X "list.count" zsn:=by
 intro pins s σ H x vs v us Q I rx rv h
 obtain ⟨l,bs,b,rfl,rfl,hH,q⟩:=h
 cases rx
 obtain ⟨u,rfl,ru⟩:=rv.one
 cases (show u=Value.bool b from ru)
 obtain ⟨z,its,n,r,hl,e⟩:=I.lstM hH
 have ei:its=bs.map Value.bool:=zmc r
 refine call_meets F.slot_list_count ⟨_,e,rfl⟩ F.entry_list_count (F.args_list_count_2 _ _) (SeqAt.list_countAt l its.toArray n none #[] (.bool b) (isB b)) ⟨e,fun y hy=>?_,.int ((bs.count b:Nat):Int),H,?_,?_,q⟩
 ·have hy:y∈its:=by simpa using hy
  rw [ei] at hy
  obtain ⟨c,_,rfl⟩:=List.mem_map.mp hy
  obtain ⟨as,ra⟩:=zdk I (Deep.bl c) (show RelV (.bl c) (.bool c) from rfl)
  obtain ⟨as',rb⟩:=zdk I (Deep.bl b) (show RelV (.bl b) (.bool b) from rfl)
  have:=SeqAt.eqAt_reads (.bool c) (.bool b) X.A.in1 s _ _ as as' ra rb rfl rfl (PySem.SeqAt.room_of_shaped (show PySem.SeqAt.shaped (PyData.bool c)=true from rfl) (by show X.A.units+1+64<cLine; omega))
  have e2:PyData.eqv (.bool c) (.bool b)=isB b (.bool c):=by cases c <;> cases b <;> decide
  rw [<- e2]
  exact this
 ·exact I.tok _
 ·have ec:its.toArray.toList.countP (isB b)=bs.count b:=by
   rw [ei]
   show (bs.map Value.bool).countP (isB b) = _
   rw [List.countP_map]
   rfl
  exact ⟨_,by rw [ec]⟩
end
end L2
namespace L2
open PySem PySem.Spec PyProof.Rows
def zpi (tl:TE):TI:=fun σ H R=>tl σ H fun x H1=>∃ a o kvs,x = .ref a/\H1 a=some (.frz o (.dK kvs))/\R (Iti a o kvs) H1
section
variable {X:Cx}
theorem zpj {o:Expr} {apos cpos tpos:Pos} {elts:List Expr} {x1} {tl:TE} (hl:PE X o tl) (hbase:attributeBase o "items" X.env (eval o X.env)=eval o X.env:=by rfl) (hline:(apos.endLine == cpos.line)=true:=by rfl) :
    PI X (.Tuple elts x1 tpos) (.Call (.Attribute o "items" apos) [] [] cpos) (zpi tl):=by
  intro pins s σ H R I h
  refine wpAny_Call_method0_late hbase hline (thn (hl pins s σ H _ I h) fun v s1 ⟨x,H1,I1,r1,a,o0,kvs,ex,ha,hall⟩=>?_)
  subst ex
  obtain rfl:v=Value.ref a:=r1
  obtain ⟨t1,t2,_⟩:=zoy I1 (.inl ⟨kvs,.inr ⟨o0,ha⟩⟩)
  obtain ⟨g0,z,hd,vs,rel,o',es,ep,ho,hx⟩:=I1.hok a _ ha
  have eo:o'=o0:=by rw [g0] at ho; exact (Option.some.inj ho).symm
  subst eo
  refine ⟨"dict", "dict.items", PySem.F.plainAttrs_dict,PySem.F.slot_dict_items,PySem.F.type_dict_items,t1,t2,Calls.callWith_builtin rfl (PySem.evalArgs_none ?_)⟩
  refine call_meetsIn PySem.F.slot_dict_items t1 PySem.F.entry_dict_items (PySem.F.args_dict_items_1 _) (meets_dict_items (zbe X.prog X.w) a hd) ⟨⟨vs,o',es,ep,ho,hx⟩,?_⟩
  have Iv:Inv X pins σ H1 { s1 with heap:=s1.heap.push { cls:=.type "dict_items", data:=.fields #[.ref a] } }:=I1.kept (t':=s1.toks) fun b o e=>Heap.get?_push_of_some _ e
  have hov:(s1.heap.push { cls:=.type "dict_items", data:=.fields #[.ref a] }).get? a=some o':=Heap.get?_push_of_some _ ho
  have hvw:(s1.heap.push { cls:=.type "dict_items", data:=.fields #[.ref a] }).IsItemsView s1.heap.objs.size a:=⟨_,Heap.get?_push_size _ rfl,rfl,rfl⟩
  generalize s1.heap.push { cls:=.type "dict_items", data:=.fields #[.ref a] } = hv at Iv hov hvw ⊢
  refine wpAny_pyIter_items (s:={ s1 with heap:=hv }) (knd:=zbe X.prog X.w) hvw ⟨o',es,hov,hx⟩ ?_
  have fresh:H1 hv.objs.size=none:=Iv.hok.fresh (Nat.le_refl _)
  have I2:Inv X pins σ H1 { s1 with heap:=hv.push { cls:=.type "dict_itemiterator", data:=.fields #[.none,.bool false,.ref a,.int 0 0,.int vs.length 0,.int ep 0,.none,.none] } } :=
    Iv.kept (t':=s1.toks) fun b o e=>Heap.get?_push_of_some _ e
  refine ⟨hv.objs.size,[hv.objs.size],_,_,_,rfl,I2,zgk a _ rel hx,⟨.none,.none,Heap.get?_push_size _ rfl⟩,fun b hb=>?_,hall⟩
  have e:b=hv.objs.size:=by simpa using hb
  subst e
  have fp1:=Iv.fpOk (Nat.le_refl _) fresh
  exact ⟨fresh,fp1.2⟩
end
section
variable {X:Cx}
end
end L2
namespace L2
open PySem PySem.Spec PyProof.Rows
structure Gnm (nm:Nm):Prop where
 nd:(nm.map (·.1)).Nodup
 sh:∀ x s,shOf nm x=some s->1<=s/\s<=1000000
 ok:∀ y∈nm.map (·.1),PyData.strOk y=true
theorem Gnm.nil:Gnm []:=⟨.nil,fun x s e=>by (cases e),fun y h=>absurd h List.not_mem_nil⟩
theorem Gnm.put {nm:Nm} (h:Gnm nm) {x:Str} {s:Int} (hx:shOf nm x=none) (s0:1<=s) (s1:s<=1000000) (ok:PyData.strOk x=true):Gnm (nm++[(x,s)]):=by
 refine ⟨?_,fun y t e=>?_,fun y hy=>?_⟩
 ·rw [List.map_append]
  exact List.nodup_append.mpr ⟨h.nd,by simp,fun y hy z hz=>by
   have:z=x:=by simpa using hz
   rw [this]
   intro e
   exact (Sw.sh_none.mp hx) (e ▸ hy)⟩
 ·rw [zfw hx] at e
  split at e
  ·cases e; exact ⟨s0,s1⟩
  ·exact h.sh y t e
 ·rw [List.map_append] at hy
  rcases List.mem_append.mp hy with z | z
  ·exact h.ok y z
  ·have:y=x:=by simpa using z
   rw [this]; exact ok
inductive CSt
 | st (nm:Nm) (tg gs:Str->Option Rat) (ck:Rat) (ch:V) (N:Nat)
 | rd (nm:Nm) (q:List Str) (rs:Nm) (tu:Option Str) (ch:V)
def CSt.nm:CSt->Nm
 | .st nm _ _ _ _ _=>nm
 | .rd nm _ _ _ _=>nm
def CSt.sz:CSt->Nat
 | .st _ _ _ _ _ N=>N
 | .rd nm _ _ _ _=>nm.length
def CSt.Ok (m:Int):CSt->Prop
 | .st nm tg gs _ _ _=>Gnm nm/\∀ x,shOf nm x≠none->∃ t g,tg x=some t/\gs x=some g
 | .rd nm q rs tu _=>Gnm nm/\Sw.RI m nm q rs tu
def CSt.put (x:Str) (s:Int):CSt->CSt
 | .st nm tg gs ck ch N=>.st (nm++[(x,s)]) (setS tg x 0) (setS gs x 0) ck ch (N+3)
 | .rd nm q rs tu ch=>.rd (nm++[(x,s)]) (q++[x]) (rs++[(x,0)]) tu ch
def CSt.new (rounds:Bool):CSt:=if rounds then .rd [] [] [] none .non else .st [] (fun _=>none) (fun _=>none) 0 .non 0
theorem CSt.nm_put {x:Str} {s:Int} (c:CSt):(c.put x s).nm=c.nm++[(x,s)]:=by cases c <;> rfl
theorem CSt.nm_new (b:Bool):(CSt.new b).nm = []:=by cases b <;> rfl
def ChS (cS cR cM:Addr) (H:Hp) (a:At5) (m:Int):CSt->Prop
 | .st nm tg gs ck ch N=>Sx cS cM H a m nm tg gs ck ch N
 | .rd nm q rs tu ch=>Rx cR cM H a m nm q rs tu ch
def five (a:At5):List Addr:=[a.p,a.pm,a.ps,a.pt,a.pg]
theorem mem_five {a:At5} {b:Addr}:b∈five a↔b=a.p\/b=a.pm\/b=a.ps\/b=a.pt\/b=a.pg:=by
 unfold five; simp
section
variable {cS cR cM:Addr} {H H':Hp} {a:At5} {m:Int} {c:CSt}
theorem ChS.keep (h:ChS cS cR cM H a m c) (e:∀ b o,(b∈five a\/∃ xs,H b=some (.tup xs))->H b=some o->H' b=some o):ChS cS cR cM H' a m c:=by
 have e1:∀ b o,(b=a.p\/b=a.pm\/b=a.ps\/b=a.pt\/b=a.pg\/∃ xs,H b=some (.tup xs))->H b=some o->H' b=some o:=fun b o hb=>e b o (by
  rcases hb with z | z | z | z | z | z
  ·exact .inl (mem_five.mpr (.inl z))
  ·exact .inl (mem_five.mpr (.inr (.inl z)))
  ·exact .inl (mem_five.mpr (.inr (.inr (.inl z))))
  ·exact .inl (mem_five.mpr (.inr (.inr (.inr (.inl z)))))
  ·exact .inl (mem_five.mpr (.inr (.inr (.inr (.inr z)))))
  ·exact .inr z)
 cases c with
 | st nm tg gs ck ch N =>
  have S:Sx cS cM H a m nm tg gs ck ch N:=h
  obtain ⟨dx,fs,pr,h1,h2,h3⟩:=S.ex
  obtain ⟨dm,fm,m1,m2,m3,m4⟩:=S.mb.ex
  exact ⟨⟨dx,fs,pr,e1 _ _ (.inl rfl) h1,h2,e1 _ _ (.inr (.inr (.inr (.inr (.inr ⟨_,h3⟩))))) h3⟩,⟨⟨dm,fm,e1 _ _ (.inr (.inl rfl)) m1,m2,m3,m4⟩,e1 _ _ (.inr (.inr (.inl rfl))) S.mb.hs⟩,
   S.dt.keep fun b o hb=>e1 b o (hb.elim (fun z=>.inr (.inr (.inr (.inl z)))) fun z=>.inr (.inr (.inr (.inr (.inr z))))),S.dg.keep fun b o hb=>e1 b o (hb.elim (fun z=>.inr (.inr (.inr (.inr (.inl z))))) fun z=>.inr (.inr (.inr (.inr (.inr z))))),S.nl,S.n1,S.n2,S.n3,S.n4⟩
 | rd nm q rs tu ch =>
  have S:Rx cR cM H a m nm q rs tu ch:=h
  obtain ⟨dx,fs,h1,h2⟩:=S.ex
  obtain ⟨dm,fm,m1,m2,m3,m4⟩:=S.mb.ex
  exact ⟨⟨dx,fs,e1 _ _ (.inl rfl) h1,h2⟩,⟨⟨dm,fm,e1 _ _ (.inr (.inl rfl)) m1,m2,m3,m4⟩,e1 _ _ (.inr (.inr (.inl rfl))) S.mb.hs⟩,e1 _ _ (.inr (.inr (.inr (.inl rfl)))) S.hq,e1 _ _ (.inr (.inr (.inr (.inr (.inl rfl))))) S.hr,S.n3,S.n4⟩
theorem ChS.at (h:ChS cS cR cM H a m c) {b:Addr} (hb:b∈five a):∃ o,H b=some o/\∀ xs,o≠.tup xs:=by
 cases c with
 | st nm tg gs ck ch N =>
  have S:Sx cS cM H a m nm tg gs ck ch N:=h
  obtain ⟨dx,fs,pr,h1,h2,h3⟩:=S.ex
  obtain ⟨dm,fm,m1,_⟩:=S.mb.ex
  obtain ⟨kt,t1,_⟩:=S.dt.ex
  obtain ⟨kg,g1,_⟩:=S.dg.ex
  rcases mem_five.mp hb with z | z | z | z | z <;> subst z
  ·exact ⟨_,h1,by intro xs y; cases y⟩
  ·exact ⟨_,m1,by intro xs y; cases y⟩
  ·exact ⟨_,S.mb.hs,by intro xs y; cases y⟩
  ·exact ⟨_,t1,by intro xs y; cases y⟩
  ·exact ⟨_,g1,by intro xs y; cases y⟩
 | rd nm q rs tu ch =>
  have S:Rx cR cM H a m nm q rs tu ch:=h
  obtain ⟨dx,fs,h1,h2⟩:=S.ex
  obtain ⟨dm,fm,m1,_⟩:=S.mb.ex
  rcases mem_five.mp hb with z | z | z | z | z <;> subst z
  ·exact ⟨_,h1,by intro xs y; cases y⟩
  ·exact ⟨_,m1,by intro xs y; cases y⟩
  ·exact ⟨_,S.mb.hs,by intro xs y; cases y⟩
  ·exact ⟨_,S.hq,by intro xs y; cases y⟩
  ·exact ⟨_,S.hr,by intro xs y; cases y⟩
end
theorem ChS.nodup {cS cR cM:Addr} {H:Hp} {a:At5} {m:Int} {c:CSt} (h:ChS cS cR cM H a m c):(five a).Nodup:=by
 have go:a.p≠a.pm->a.p≠a.ps->a.p≠a.pt->a.p≠a.pg->a.pm≠a.ps->a.pm≠a.pt->a.pm≠a.pg->a.ps≠a.pt->a.ps≠a.pg->a.pt≠a.pg->(five a).Nodup:=by
  intro h1 h2 h3 h4 h5 h6 h7 h8 h9 h10
  unfold five
  simp [h1,h2,h3,h4,h5,h6,h7,h8,h9,h10]
 cases c with
 | st nm tg gs ck ch N =>
  have S:Sx cS cM H a m nm tg gs ck ch N:=h
  obtain ⟨dx,fs,pr,h1,h2,h3⟩:=S.ex
  obtain ⟨dm,fm,m1,_⟩:=S.mb.ex
  obtain ⟨kt,t1,_⟩:=S.dt.ex
  obtain ⟨kg,g1,_⟩:=S.dg.ex
  exact go S.n4 (ne_of h1 S.mb.hs (by intro z; cases z)) (ne_of h1 t1 (by intro z; cases z)) (ne_of h1 g1 (by intro z; cases z)) (ne_of m1 S.mb.hs (by intro z; cases z)) (ne_of m1 t1 (by intro z; cases z)) (ne_of m1 g1 (by intro z; cases z)) S.n2.symm S.n3.symm S.n1
 | rd nm q rs tu ch =>
  have S:Rx cR cM H a m nm q rs tu ch:=h
  obtain ⟨dx,fs,h1,h2⟩:=S.ex
  obtain ⟨dm,fm,m1,_⟩:=S.mb.ex
  exact go S.n4 (ne_of h1 S.mb.hs (by intro z; cases z)) (ne_of h1 S.hq (by intro z; cases z)) (ne_of h1 S.hr (by intro z; cases z)) (ne_of m1 S.mb.hs (by intro z; cases z)) (ne_of m1 S.hq (by intro z; cases z)) (ne_of m1 S.hr (by intro z; cases z)) (ne_of S.mb.hs S.hq (by intro z; cases z)) S.n3.symm (ne_of S.hq S.hr (by intro z; cases z))
section
variable {m:Int} {c:CSt} {x:Str} {s:Int}
theorem CSt.Ok.put (h:c.Ok m) (hx:shOf c.nm x=none) (s0:1<=s) (s1:s<=1000000) (ok:PyData.strOk x=true):(c.put x s).Ok m:=by
 cases c with
 | st nm tg gs ck ch N =>
  refine ⟨h.1.put hx s0 s1 ok,fun y hy=>?_⟩
  unfold setS
  by_cases e:y=x
  ·rw [if_pos e,if_pos e]; exact ⟨_,_,rfl,rfl⟩
  ·have hx:shOf nm x=none:=hx
   rw [zfw hx,if_neg e] at hy
   rw [if_neg e,if_neg e]; exact h.2 y hy
 | rd nm q rs tu ch=>exact ⟨h.1.put hx s0 s1 ok,h.2.put hx s0 s1⟩
theorem CSt.Ok.new (h:1<=m) (b:Bool):(CSt.new b).Ok m:=by
 cases b with
 | true=>exact ⟨Gnm.nil,.nil h⟩
 | false=>exact ⟨Gnm.nil,fun y hy=>absurd rfl hy⟩
end
def Deed (S:List Addr) (H H':Hp):Prop:=∀ b o,b ∉ S->H b=some o->H' b=some o
theorem Deed.mono {S S':List Addr} {H H1:Hp} (x:Deed S H H1) (h:∀ b∈S,b∈S'):Deed S' H H1:=fun b o n e=>x b o (fun z=>n (h b z)) e
theorem Own.deed {a:At5} {H H':Hp} (w:Own a H H'):Deed (five a) H H':=fun b o n e=>by
 rw [mem_five] at n
 exact w b o (fun z=>n (.inl z)) (fun z=>n (.inr (.inr (.inl z)))) (fun z=>n (.inr (.inr (.inr (.inl z))))) (fun z=>n (.inr (.inr (.inr (.inr z))))) e
structure FN (fs:List (Str×V)) (ab ch rm bk:V) (ql:Addr):Prop where
 ab:fs.lookup ("above" : Str)=some ab
 ch:fs.lookup ("chooser" : Str)=some ch
 rm:fs.lookup ("room" : Str)=some rm
 bk:fs.lookup ("bucket" : Str)=some bk
 qu:fs.lookup ("queue" : Str)=some (.ref ql)
 no:∀ m:Str,¬ m = "above" -> ¬ m = "chooser" -> ¬ m = "room" -> ¬ m = "bucket" -> ¬ m = "queue" -> fs.lookup m=none
 len:fs.length<900
theorem FN.mk0 (ab ch rm bk:V) (ql:Addr):FN (putF "queue" (.ref ql) (putF "bucket" bk (putF "room" rm (putF "chooser" ch (putF "above" ab []))))) ab ch rm bk ql:=by
 refine ⟨?_,?_,?_,?_,?_,fun m h1 h2 h3 h4 h5=>?_,?_⟩
 ·rw [zaj (by decide +kernel),zaj (by decide +kernel),zaj (by decide +kernel),zaj (by decide +kernel),zbr]
 ·rw [zaj (by decide +kernel),zaj (by decide +kernel),zaj (by decide +kernel),zbr]
 ·rw [zaj (by decide +kernel),zaj (by decide +kernel),zbr]
 ·rw [zaj (by decide +kernel),zbr]
 ·rw [zbr]
 ·rw [zaj h5,zaj h4,zaj h3,zaj h2,zaj h1]; rfl
 ·have l1:=zal (fs:=[]) (f := "above") (v:=ab)
  have l2:=zal (fs:=putF "above" ab []) (f := "chooser") (v:=ch)
  have l3:=zal (fs:=putF "chooser" ch (putF "above" ab [])) (f := "room") (v:=rm)
  have l4:=zal (fs:=putF "room" rm (putF "chooser" ch (putF "above" ab []))) (f := "bucket") (v:=bk)
  have l5:=zal (fs:=putF "bucket" bk (putF "room" rm (putF "chooser" ch (putF "above" ab [])))) (f := "queue") (v:=.ref ql)
  simp only [List.length_nil] at l1
  omega
structure BkS where
 d:Int
 r:Rat
 s:Int
 l:Rat
structure ND where
 nm:Str
 p:Addr
 ql:Addr
 ab:Option Str
 ch:Option (At5×CSt)
 rm:V
 bk:Option (Addr×BkS)
 ps:List Addr
 qu:List D2
structure Cl where
 n:Addr
 s:Addr
 r:Addr
 m:Addr
 b:Addr
 t:Addr
def chF:Option (At5×CSt)->List Addr
 | none=>[]
 | some c=>five c.1
def bkF:Option (Addr×BkS)->List Addr
 | none=>[]
 | some b=>[b.1]
def ND.foot (x:ND):List Addr:=x.p :: x.ql :: (chF x.ch++bkF x.bk)
def chV:Option (At5×CSt)->V
 | none=>.non
 | some c=>.ref c.1.p
def bkV:Option (Addr×BkS)->V
 | none=>.non
 | some b=>.ref b.1
structure NdOk (C:Cl) (H:Hp) (m:Int) (x:ND):Prop where
 ex:∃ dx fs,H x.p=some (.ins C.n dx fs)/\FN fs (optS x.ab) (chV x.ch) x.rm (bkV x.bk) x.ql
 qu:Gos H x.ql x.ps x.qu
 ch:∀ c,x.ch=some c->ChS C.s C.r C.m H c.1 m c.2
 bk:∀ b,x.bk=some b->Bk C.b H b.1 b.2.d b.2.r b.2.s b.2.l
section
variable {C:Cl} {H H':Hp} {m:Int} {x:ND}
theorem NdOk.keep (h:NdOk C H m x) (e:∀ b o,(b∈x.foot\/∃ xs,H b=some (.tup xs))->H b=some o->H' b=some o):NdOk C H' m x:=by
 obtain ⟨dx,fs,h1,h2⟩:=h.ex
 refine ⟨⟨dx,fs,e _ _ (.inl (List.mem_cons_self ..)) h1,h2⟩,⟨e _ _ (.inl (List.mem_cons_of_mem _ (List.mem_cons_self ..))) h.qu.hl,h.qu.r.keep fun p z hp=>e _ _ (.inr ⟨_,hp⟩) hp⟩,fun c hc=>?_,fun b hb=>?_⟩
 ·refine (h.ch c hc).keep fun b o hb=>e b o (hb.imp (fun z=>?_) id)
  refine List.mem_cons_of_mem _ (List.mem_cons_of_mem _ (List.mem_append.mpr (.inl ?_)))
  rw [hc]; exact z
 ·obtain ⟨dx',fs',pr,pl,b1,b2,b3,b4⟩:=(h.bk b hb).ex
  refine ⟨dx',fs',pr,pl,e _ _ (.inl ?_) b1,b2,e _ _ (.inr ⟨_,b3⟩) b3,e _ _ (.inr ⟨_,b4⟩) b4⟩
  refine List.mem_cons_of_mem _ (List.mem_cons_of_mem _ (List.mem_append.mpr (.inr ?_)))
  rw [hb]; exact List.mem_singleton.mpr rfl
theorem NdOk.at (h:NdOk C H m x) {b:Addr} (hb:b∈x.foot):∃ o,H b=some o/\∀ xs,o≠.tup xs:=by
 unfold ND.foot at hb
 rcases List.mem_cons.mp hb with z | hb
 ·obtain ⟨dx,fs,h1,h2⟩:=h.ex
  subst z
  exact ⟨_,h1,by intro xs y; cases y⟩
 rcases List.mem_cons.mp hb with z | hb
 ·subst z
  exact ⟨_,h.qu.hl,by intro xs y; cases y⟩
 rcases List.mem_append.mp hb with z | z
 ·cases hc:x.ch with
  | none=>rw [hc] at z; cases z
  | some c=>rw [hc] at z; exact (h.ch c hc).at z
 ·cases hc:x.bk with
  | none=>rw [hc] at z; cases z
  | some c =>
   rw [hc] at z
   obtain ⟨dx',fs',pr,pl,b1,_⟩:=(h.bk c hc).ex
   have:b=c.1:=List.mem_singleton.mp z
   subst this
   exact ⟨_,b1,by intro xs y; cases y⟩
theorem NdOk.deed {S:List Addr} (h:NdOk C H m x) (d:Deed S H H') (f:∀ b∈x.foot,b ∉ S) (nt:∀ b∈S,∀ xs,H b≠some (.tup xs)):NdOk C H' m x :=
 h.keep fun b o hb e=>d b o (hb.elim (fun z=>f b z) fun ⟨xs,z⟩ y=>nt b y xs z) e
end
theorem NdOk.new {C:Cl} {H3 H4:Hp} {m:Int} {nm:Str} {x dx ql:Addr} {fs:List (Str×V)} {ab:Option Str} {ch:Option (At5×CSt)} {rm:V} (hx:H3 x=none) (hd:H3 dx=none) (bt:But x (upd (upd H3 dx (.own x)) x (.ins C.n dx [])) H4) (hq:upd (upd H3 dx (.own x)) x (.ins C.n dx []) ql=none) (h1:H4 x=some (.ins C.n dx fs)) (h2:FN fs (optS ab) (chV ch) rm .non ql) (h3:H4 ql=some (.lst [])) (hc:∀ c,ch=some c->ChS C.s C.r C.m H3 c.1 m c.2) :
    Same H3 H4/\NdOk C H4 m ⟨nm,x,ql,ab,ch,rm,none,[],[]⟩/\(ND.foot ⟨nm,x,ql,ab,ch,rm,none,[],[]⟩).Nodup/\H3 ql=none:=by
  have sm:Same H3 H4:=fun b o e=>bt b o (zan e hx) (zcy hx hd _ _ e)
  have nql:ql≠x:=fun z=>by rw [z,zab] at hq; cases hq
  have q3:H3 ql=none:=by
    rw [zah nql] at hq
    by_cases e:ql=dx
    · rw [e,zab] at hq; cases hq
    · rw [zah e] at hq; exact hq
  refine ⟨sm,⟨⟨dx,fs,h1,h2⟩,⟨h3,.nil⟩,fun c e=>(hc c e).keep fun b o _ e=>sm b o e,fun b e=>(by cases e)⟩,?_,q3⟩
  show (x :: ql :: (chF ch++[])).Nodup
  rw [List.append_nil]
  cases ch with
  | none=>simp [chF,nql.symm]
  | some c =>
    have C1:=hc c rfl
    have n1:x ∉ five c.1:=fun z=>by
      obtain ⟨o,ho,_⟩:=C1.at z
      rw [hx] at ho; cases ho
    have n2:ql ∉ five c.1:=fun z=>by
      obtain ⟨o,ho,_⟩:=C1.at z
      rw [q3] at ho; cases ho
    rw [List.nodup_cons,List.nodup_cons]
    exact ⟨by rw [List.mem_cons,not_or]; exact ⟨nql.symm,n1⟩,n2,C1.nodup⟩
structure FTr (fs:List (Str×V)) (m:Int) (pn:Addr) (tm fr ct:Int) (pg:Addr):Prop where
 mo:fs.lookup ("most" : Str)=some (.int m)
 no:fs.lookup ("nodes" : Str)=some (.ref pn)
 ti:fs.lookup ("time" : Str)=some (.int tm)
 fr:fs.lookup ("free" : Str)=some (.int fr)
 co:fs.lookup ("counted" : Str)=some (.int ct)
 go:fs.lookup ("gone" : Str)=some (.ref pg)
 mis:∀ m:Str,¬ m = "most" -> ¬ m = "nodes" -> ¬ m = "time" -> ¬ m = "free" -> ¬ m = "counted" -> ¬ m = "gone" -> fs.lookup m=none
 len:fs.length<900
theorem FTr.mk0 (m:Int) (pn:Addr) (tm fr ct:Int) (pg:Addr):FTr (putF "gone" (.ref pg) (putF "counted" (.int ct) (putF "free" (.int fr) (putF "time" (.int tm) (putF "nodes" (.ref pn) (putF "most" (.int m) [])))))) m pn tm fr ct pg:=by
 refine ⟨?_,?_,?_,?_,?_,?_,fun m h1 h2 h3 h4 h5 h6=>?_,?_⟩
 ·rw [zaj (by decide +kernel),zaj (by decide +kernel),zaj (by decide +kernel),zaj (by decide +kernel),zaj (by decide +kernel),zbr]
 ·rw [zaj (by decide +kernel),zaj (by decide +kernel),zaj (by decide +kernel),zaj (by decide +kernel),zbr]
 ·rw [zaj (by decide +kernel),zaj (by decide +kernel),zaj (by decide +kernel),zbr]
 ·rw [zaj (by decide +kernel),zaj (by decide +kernel),zbr]
 ·rw [zaj (by decide +kernel),zbr]
 ·rw [zbr]
 ·rw [zaj h6,zaj h5,zaj h4,zaj h3,zaj h2,zaj h1]; rfl
 ·have a1:=zal (fs:=[]) (f := "most") (v:=.int m)
  have a2:=zal (fs:=putF "most" (.int m) []) (f := "nodes") (v:=.ref pn)
  have a3:=zal (fs:=putF "nodes" (.ref pn) (putF "most" (.int m) [])) (f := "time") (v:=.int tm)
  have a4:=zal (fs:=putF "time" (.int tm) (putF "nodes" (.ref pn) (putF "most" (.int m) []))) (f := "free") (v:=.int fr)
  have a5:=zal (fs:=putF "free" (.int fr) (putF "time" (.int tm) (putF "nodes" (.ref pn) (putF "most" (.int m) [])))) (f := "counted") (v:=.int ct)
  have a6:=zal (fs:=putF "counted" (.int ct) (putF "free" (.int fr) (putF "time" (.int tm) (putF "nodes" (.ref pn) (putF "most" (.int m) []))))) (f := "gone") (v:=.ref pg)
  simp only [List.length_nil] at a1
  omega
abbrev D3:=Int×Int×Str
def d3V (g:D3):List V:=[.int g.1,.int g.2.1,.str g.2.2]
structure TD where
 p:Addr
 pn:Addr
 pg:Addr
 most:Int
 tm:Int
 fr:Int
 ct:Int
 ns:List ND
 gp:List Addr
 gs:List D3
def TD.foot (D:TD):List Addr:=D.p :: D.pn :: D.pg :: D.ns.flatMap ND.foot
def ndK (ns:List ND):List (Key×V):=ns.map fun x=>((Sum.inr x.nm:Key),V.ref x.p)
structure TrOk (C:Cl) (H:Hp) (D:TD):Prop where
 ex:∃ dx fs,H D.p=some (.ins C.t dx fs)/\FTr fs D.most D.pn D.tm D.fr D.ct D.pg
 hn:H D.pn=some (.dK (ndK D.ns))
 nd:∀ x∈D.ns,NdOk C H D.most x
 go:H D.pg=some (.lst (D.gp.map V.ref))
 gr:Paired (fun p g=>H p=some (.tup (d3V g))) D.gp D.gs
 fd:D.foot.Nodup
theorem zen {α β:Type} {R S:α->β->Prop} (h:∀ a b,R a b->S a b):∀ {l:List α} {k:List β},Paired R l k->Paired S l k
 | _,_,.nil=>.nil
 | _,_,.cons a b=>.cons (h _ _ a) (zen h b)
section
variable {C:Cl} {H H':Hp} {D:TD}
theorem TD.mem_node {x:ND} {b:Addr} (hx:x∈D.ns) (hb:b∈x.foot):b∈D.foot :=
 List.mem_cons_of_mem _ (List.mem_cons_of_mem _ (List.mem_cons_of_mem _ (List.mem_flatMap.mpr ⟨x,hx,hb⟩)))
theorem TrOk.keep (h:TrOk C H D) (e:∀ b o,(b∈D.foot\/∃ xs,H b=some (.tup xs))->H b=some o->H' b=some o):TrOk C H' D:=by
 obtain ⟨dx,fs,h1,h2⟩:=h.ex
 exact ⟨⟨dx,fs,e _ _ (.inl (List.mem_cons_self ..)) h1,h2⟩,e _ _ (.inl (List.mem_cons_of_mem _ (List.mem_cons_self ..))) h.hn,fun x hx=>(h.nd x hx).keep fun b o hb=>e b o (hb.imp (fun z=>TD.mem_node hx z) id),e _ _ (.inl (List.mem_cons_of_mem _ (List.mem_cons_of_mem _ (List.mem_cons_self ..)))) h.go,zen (fun a b z=>e _ _ (.inr ⟨_,z⟩) z) h.gr,h.fd⟩
theorem TrOk.same (h:TrOk C H D) (s:Same H H'):TrOk C H' D:=h.keep fun b o _ e=>s b o e
theorem TrOk.at (h:TrOk C H D) {b:Addr} (hb:b∈D.foot):∃ o,H b=some o/\∀ xs,o≠.tup xs:=by
 unfold TD.foot at hb
 rcases List.mem_cons.mp hb with z | hb
 ·obtain ⟨dx,fs,h1,h2⟩:=h.ex
  subst z; exact ⟨_,h1,by intro xs y; cases y⟩
 rcases List.mem_cons.mp hb with z | hb
 ·subst z; exact ⟨_,h.hn,by intro xs y; cases y⟩
 rcases List.mem_cons.mp hb with z | hb
 ·subst z; exact ⟨_,h.go,by intro xs y; cases y⟩
 obtain ⟨x,hx,z⟩:=List.mem_flatMap.mp hb
 exact (h.nd x hx).at z
theorem TrOk.free (h:TrOk C H D) {b:Addr} (e:H b=none):b ∉ D.foot:=fun z=>by
 obtain ⟨o,ho,_⟩:=h.at z
 rw [ho] at e; cases e
theorem TrOk.notup (h:TrOk C H D) {b:Addr} {xs:List V} (e:H b=some (.tup xs)):b ∉ D.foot:=fun z=>by
 obtain ⟨o,ho,n⟩:=h.at z
 rw [ho] at e; exact n xs (Option.some.inj e)
theorem TrOk.other (h:TrOk C H D) {b:Addr} {o o':HO} (f:b ∉ D.foot) (e:H b=some o) (nt:∀ xs,o≠.tup xs):TrOk C (upd H b o') D:=by
 refine h.keep fun c u hc hu=>?_
 rw [zah fun z=>?_]
 ·exact hu
 ·subst z
  rcases hc with z | ⟨xs,z⟩
  ·exact f z
  ·rw [e] at z; exact nt xs (Option.some.inj z)
end
def fndN (ns:List ND) (x:Str):Option ND:=ns.find? fun n=>decide (n.nm=x)
theorem zdp {ns:List ND} {x:Str} {n:ND} (h:fndN ns x=some n):n∈ns/\n.nm=x:=by
 unfold fndN at h
 exact ⟨List.mem_of_find?_eq_some h,of_decide_eq_true (List.find?_some (p:=fun n:ND=>decide (n.nm=x)) h)⟩
theorem fnd_none {ns:List ND} {x:Str}:fndN ns x=none↔x ∉ ns.map (·.nm):=by
 unfold fndN
 rw [List.find?_eq_none]
 constructor
 ·intro h z
  obtain ⟨n,hn,e⟩:=List.mem_map.mp z
  exact h n hn (decide_eq_true e)
 ·intro h n hn e
  exact h (List.mem_map.mpr ⟨n,hn,of_decide_eq_true e⟩)
theorem zhm {ns:List ND} (nd:(ns.map (·.nm)).Nodup) {n:ND} (h:n∈ns):fndN ns n.nm=some n:=by
 induction ns with
 | nil=>cases h
 | cons y r ih =>
  rw [List.map_cons,List.nodup_cons] at nd
  unfold fndN
  rw [List.find?_cons]
  rcases List.mem_cons.mp h with e | e
  ·subst e; simp
  ·have ne:decide (y.nm=n.nm)=false:=decide_eq_false fun z=>nd.1 (by rw [z]; exact List.mem_map.mpr ⟨n,e,rfl⟩)
   rw [ne]
   exact ih nd.2 e
theorem zhn (ns:List ND) (x:Str):valV (ndK ns) (Sum.inr x:Key)=(fndN ns x).map fun n=>V.ref n.p:=by
 induction ns with
 | nil=>rfl
 | cons p r ih =>
  unfold valV ndK fndN at ih ⊢
  rw [List.map_cons,List.find?_cons,List.find?_cons]
  by_cases h:p.nm=x
  ·simp [h]
  ·have h2:¬ (Sum.inr p.nm:Key)=Sum.inr x:=fun z=>h (Sum.inr.inj z)
   simp only [decide_eq_false h,decide_eq_false h2]
   exact ih
theorem zso (ns:List ND):(ndK ns).length=ns.length:=List.length_map _
theorem zsp {ns:List ND} {n:ND} (h:fndN ns n.nm=none):putK (ndK ns) (Sum.inr n.nm:Key) (.ref n.p)=ndK (ns++[n]):=by
 unfold putK
 have e:((ndK ns).any fun kv=>decide (kv.1=(Sum.inr n.nm:Key)))=false:=by
  rw [zel,zhn,h]; rfl
 rw [e,if_neg (by decide)]
 unfold ndK
 rw [List.map_append]; rfl
theorem zsq {ns:List ND} {n:ND} (h:fndN ns n.nm=none) (x:Str):fndN (ns++[n]) x=if x=n.nm then some n else fndN ns x:=by
 unfold fndN at h ⊢
 rw [List.find?_append]
 by_cases e:x=n.nm
 ·subst e
  rw [if_pos rfl,h]; simp
 ·rw [if_neg e]
  have:([n].find? fun y=>decide (y.nm=x))=none:=by
   have:¬ n.nm=x:=fun z=>e z.symm
   simp [this]
  rw [this]; simp
def setN (ns:List ND) (n:ND):List ND:=ns.map fun y=>if y.nm=n.nm then n else y
theorem zsr (ns:List ND) (n:ND):(setN ns n).map (·.nm)=ns.map (·.nm):=by
 unfold setN
 rw [List.map_map]
 refine List.map_congr_left fun y _=>?_
 show (if y.nm=n.nm then n else y).nm=y.nm
 split
 ·rename_i h; exact h.symm
 ·rfl
theorem zpk {ns:List ND} {n:ND} (x:Str):fndN (setN ns n) x=if x=n.nm then (fndN ns x).map (fun _=>n) else fndN ns x:=by
 induction ns with
 | nil=>unfold fndN setN; simp
 | cons p r ih =>
  unfold fndN setN at ih ⊢
  rw [List.map_cons,List.find?_cons,List.find?_cons]
  by_cases hp:p.nm=n.nm
  ·rw [if_pos hp]
   by_cases hy:p.nm=x
   ·have:n.nm=x:=hp ▸ hy
    simp [hy,this]
   ·have:¬ n.nm=x:=hp ▸ hy
    simp only [decide_eq_false hy,decide_eq_false this]
    exact ih
  ·rw [if_neg hp]
   by_cases hy:p.nm=x
   ·have:¬ x=n.nm:=fun z=>hp (hy.trans z)
    simp [hy,this]
   ·simp only [decide_eq_false hy]
    exact ih
theorem zkp {l1 l2:List ND} {n n':ND} (e:n'.nm=n.nm) (nd:((l1++n :: l2).map (·.nm)).Nodup):setN (l1++n :: l2) n'=l1++n' :: l2:=by
 unfold setN
 rw [List.map_append,List.nodup_append,List.map_cons,List.nodup_cons] at nd
 rw [List.map_append,List.map_cons,if_pos e.symm]
 have h1:l1.map (fun y=>if y.nm=n'.nm then n' else y)=l1:=by
  conv=>rhs; rw [<- List.map_id l1]
  refine List.map_congr_left fun y hy=>?_
  rw [if_neg]; rfl
  intro z
  exact nd.2.2 y.nm (List.mem_map.mpr ⟨y,hy,rfl⟩) n.nm (List.mem_cons_self ..) (z.trans e)
 have h2:l2.map (fun y=>if y.nm=n'.nm then n' else y)=l2:=by
  conv=>rhs; rw [<- List.map_id l2]
  refine List.map_congr_left fun y hy=>?_
  rw [if_neg]; rfl
  intro z
  exact nd.2.1.1 (List.mem_map.mpr ⟨y,hy,z.trans e⟩)
 rw [h1,h2]
section
variable {C:Cl} {H H':Hp} {D:TD}
theorem TrOk.node (h:TrOk C H D) (nd:(D.ns.map (·.nm)).Nodup) {n n':ND} (hn:n∈D.ns) (e:n'.nm=n.nm) (ep:n'.p=n.p) (d:Deed n.foot H H') (ok:NdOk C H' D.most n') (fn:n'.foot.Nodup) (fr:∀ b∈n'.foot,b∈n.foot\/H b=none):TrOk C H' { D with ns:=setN D.ns n' }:=by
 obtain ⟨l1,l2,el⟩:=List.append_of_mem hn
 have fd:=h.fd
 unfold TD.foot at fd
 rw [el,List.flatMap_append,List.flatMap_cons] at fd
 simp only [List.nodup_cons,List.mem_cons,List.mem_append,not_or,List.nodup_append] at fd
 obtain ⟨⟨a1,a2,a3,a4,a5⟩,⟨b1,b2,b3,b4⟩,⟨c1,c2,c3⟩,d1,⟨d2,d3,d4⟩,d5⟩:=fd
 have nt:∀ b∈n.foot,∀ xs,H b≠some (.tup xs):=fun b hb xs z=>by
  obtain ⟨o,ho,q⟩:=(h.nd n hn).at hb
  rw [ho] at z; exact q xs (Option.some.inj z)
 obtain ⟨dx,fs,h1,h2⟩:=h.ex
 have new:∀ {b:Addr} {o:HO},H b=some o->b ∉ n.foot->b ∉ n'.foot:=fun {b o} ho hb z=>by
  rcases fr b z with y | y
  ·exact hb y
  ·rw [ho] at y; cases y
 have sp:setN D.ns n'=l1++n' :: l2:=by
  rw [el] at nd ⊢
  exact zkp e nd
 have hs:∀ {b:Addr},b∈D.foot->∃ o,H b=some o:=fun {b} hb=>(h.at hb).imp fun _ z=>z.1
 refine ⟨⟨dx,fs,d _ _ a4 h1,h2⟩,?_,fun x hx=>?_,d _ _ c2 h.go,zen (fun p g z=>d _ _ (fun y=>nt p y _ z) z) h.gr,?_⟩
 ·show H' D.pn=some (.dK (ndK (setN D.ns n')))
  have:ndK (setN D.ns n')=ndK D.ns:=by
   rw [sp,el]
   unfold ndK
   rw [List.map_append,List.map_append,List.map_cons,List.map_cons,e,ep]
  rw [this]
  exact d _ _ b3 h.hn
 ·have hx:x∈l1++n' :: l2:=sp ▸ hx
  have old:x∈D.ns->(∀ b∈x.foot,b ∉ n.foot)->NdOk C H' D.most x:=fun h1 h2=>(h.nd x h1).deed d h2 nt
  rcases List.mem_append.mp hx with z | z
  ·exact old (el ▸ List.mem_append.mpr (.inl z)) fun b hb y=>d5 b (List.mem_flatMap.mpr ⟨x,z,hb⟩) b (.inl y) rfl
  ·rcases List.mem_cons.mp z with z | z
   ·rw [z]; exact ok
   ·exact old (el ▸ List.mem_append.mpr (.inr (List.mem_cons_of_mem _ z))) fun b hb y=>d4 b y b (List.mem_flatMap.mpr ⟨x,z,hb⟩) rfl
 ·show (D.p :: D.pn :: D.pg :: (setN D.ns n').flatMap ND.foot).Nodup
  rw [sp,List.flatMap_append,List.flatMap_cons]
  simp only [List.nodup_cons,List.mem_cons,List.mem_append,not_or,List.nodup_append]
  have hl1:∀ {b:Addr},b∈l1.flatMap ND.foot->∃ o,H b=some o:=fun {b} hb=>by
   obtain ⟨x,hx,y⟩:=List.mem_flatMap.mp hb
   exact hs (TD.mem_node (el ▸ List.mem_append.mpr (.inl hx)) y)
  have hl2:∀ {b:Addr},b∈l2.flatMap ND.foot->∃ o,H b=some o:=fun {b} hb=>by
   obtain ⟨x,hx,y⟩:=List.mem_flatMap.mp hb
   exact hs (TD.mem_node (el ▸ List.mem_append.mpr (.inr (List.mem_cons_of_mem _ hx))) y)
  refine ⟨⟨a1,a2,a3,new h1 a4,a5⟩,⟨b1,b2,new h.hn b3,b4⟩,⟨c1,new h.go c2,c3⟩,d1,⟨fn,d3,fun b hb c hc z=>?_⟩,fun b hb c hc z=>?_⟩
  ·subst z
   obtain ⟨o,ho⟩:=hl2 hc
   exact new ho (fun y=>d4 b y b hc rfl) hb
  ·subst z
   obtain ⟨o,ho⟩:=hl1 hb
   rcases hc with y | y
   ·exact new ho (fun q=>d5 b hb b (.inl q) rfl) y
   ·exact d5 b hb b (.inr y) rfl
end
end L2
namespace L2
open PySem PySem.Spec PyProof.Rows
def road:Str:=Str.ofString "road"
inductive Up (ns:List ND):Str->List Str->Prop
 | top {x:Str} {n:ND}:fndN ns x=some n->n.ab=none->Up ns x [x]
 | on {x y:Str} {n:ND} {ys:List Str}:fndN ns x=some n->n.ab=some y->Up ns y ys->Up ns x (x :: ys)
theorem Up.fnd {ns:List ND} {x:Str} {ys:List Str} (h:Up ns x ys):∃ n,fndN ns x=some n:=by
 cases h with
 | top h _=>exact ⟨_,h⟩
 | on h _ _=>exact ⟨_,h⟩
theorem Up.det {ns:List ND} {x:Str} {ys zs:List Str} (h:Up ns x ys):Up ns x zs->ys=zs:=by
 induction h generalizing zs with
 | top h e =>
  intro k
  cases k with
  | top _ _=>rfl
  | on h2 e2 _=>rw [h] at h2; cases h2; rw [e] at e2; cases e2
 | on h e r ih =>
  intro k
  cases k with
  | top h2 e2=>rw [h] at h2; cases h2; rw [e] at e2; cases e2
  | on h2 e2 r2 =>
   rw [h] at h2; cases h2; rw [e] at e2; cases e2
   rw [ih r2]
theorem Up.mono {ns ns':List ND} {x:Str} {ys:List Str} (h:Up ns x ys):(∀ z∈ys,∀ n,fndN ns z=some n->∃ n',fndN ns' z=some n'/\n'.ab=n.ab)->Up ns' x ys:=by
 induction h with
 | top h e =>
  intro k
  obtain ⟨n',h1,h2⟩:=k _ (List.mem_cons_self ..) _ h
  exact .top h1 (h2.trans e)
 | on h e r ih =>
  intro k
  obtain ⟨n',h1,h2⟩:=k _ (List.mem_cons_self ..) _ h
  exact .on h1 (h2.trans e) (ih fun z hz=>k z (List.mem_cons_of_mem _ hz))
theorem Up.pos {ns:List ND} {x:Str} {ys:List Str} (h:Up ns x ys):1<=ys.length:=by
 cases h <;> simp
theorem Up.mem {ns:List ND} {x:Str} {ys:List Str} (h:Up ns x ys):∀ z∈ys,∃ n,fndN ns z=some n:=by
 induction h with
 | top h e=>intro z hz; rw [List.mem_singleton.mp hz]; exact ⟨_,h⟩
 | on h e k ih =>
  intro z hz
  rcases List.mem_cons.mp hz with q | q
  ·rw [q]; exact ⟨_,h⟩
  ·exact ih z q
def kids (ns:List ND) (x:Str):List Str:=(ns.filter fun n=>decide (n.ab=some x)).map (·.nm)
structure TD.Wf (D:TD):Prop where
 nn:(D.ns.map (·.nm)).Nodup
 rd:∃ n r,D.ns=n :: r/\n.nm=road/\n.ab=none/\n.ch≠none
 ra:∀ n∈D.ns,n.ab=none->n.nm=road
 up:∀ n∈D.ns,∃ ys,Up D.ns n.nm ys/\ys.length<=6
 kid:∀ n∈D.ns,∀ c,n.ch=some c->c.2.nm.map (·.1)=kids D.ns n.nm
 lf:∀ n∈D.ns,n.ch=none->kids D.ns n.nm = []
 cok:∀ n∈D.ns,∀ c,n.ch=some c->c.2.Ok D.most
 m1:1<=D.most/\D.most<=1000000
 sok:∀ n∈D.ns,PyData.strOk n.nm=true/\n.nm.length<=8
theorem TD.Wf.rdN {D:TD} (h:D.Wf):∃ n,fndN D.ns L2.road=some n/\n.ab=none/\n.ch≠none:=by
 obtain ⟨n,r,e,h1,h2,h3⟩:=h.rd
 have:=zhm h.nn (n:=n) (by rw [e]; exact List.mem_cons_self ..)
 exact ⟨n,h1 ▸ this,h2,h3⟩
theorem zqr (ns:List ND) (n:ND) (x:Str):kids (ns++[n]) x=kids ns x++(if n.ab=some x then [n.nm] else []):=by
 unfold kids
 rw [List.filter_append,List.map_append]
 congr 1
 by_cases h:n.ab=some x
 ·simp [h]
 ·simp [h]
theorem zqs {ns:List ND} {n n':ND} (nd:(ns.map (·.nm)).Nodup) (hn:n∈ns) (e:n'.nm=n.nm) (ea:n'.ab=n.ab) (x:Str):kids (setN ns n') x=kids ns x:=by
 obtain ⟨l1,l2,el⟩:=List.append_of_mem hn
 rw [el] at nd ⊢
 rw [zkp e nd]
 unfold kids
 rw [List.filter_append,List.filter_append,List.map_append,List.map_append]
 congr 1
 rw [List.filter_cons,List.filter_cons,ea]
 by_cases h:n.ab=some x
 ·simp [h,e]
 ·simp [h]
theorem TD.Wf.put {D:TD} (h:D.Wf) {u u' n:ND} {c:At5×CSt} {s:Int} (hu:u∈D.ns) (hc:u.ch=some c) (eu:u' = { u with ch:=some (c.1,c.2.put n.nm s) }) (ok:(c.2.put n.nm s).Ok D.most) (hn:fndN D.ns n.nm=none) (ea:n.ab=some u.nm) (dp:∀ ys,Up D.ns u.nm ys->ys.length<=5) (nk:∀ c,n.ch=some c->c.2.nm = []/\c.2.Ok D.most) (sk:PyData.strOk n.nm=true/\n.nm.length<=8):{ D with ns:=setN D.ns u'++[n] }.Wf:=by
 have en:u'.nm=u.nm:=by rw [eu]
 have eab:u'.ab=u.ab:=by rw [eu]
 have fu:=zhm h.nn hu
 have nin:n.nm ∉ D.ns.map (·.nm):=fnd_none.mp hn
 have nu:n.nm≠u.nm:=fun z=>nin (z ▸ List.mem_map.mpr ⟨u,hu,rfl⟩)
 have fs:∀ y,fndN (setN D.ns u') y=if y=u.nm then some u' else fndN D.ns y:=fun y=>by
  rw [zpk,en]
  by_cases q:y=u.nm
  ·rw [if_pos q,if_pos q,q,fu]; rfl
  ·rw [if_neg q,if_neg q]
 have hn':fndN (setN D.ns u') n.nm=none:=by rw [fs,if_neg nu]; exact hn
 have ff:=fun y=>zsq (n:=n) hn' y
 have mem:∀ y∈setN D.ns u'++[n],y=n\/y=u'\/(y∈D.ns/\y.nm≠u.nm):=fun y hy=>by
  rcases List.mem_append.mp hy with hy | hy
  ·unfold setN at hy
   obtain ⟨z,hz,q⟩:=List.mem_map.mp hy
   split at q
   ·exact .inr (.inl q.symm)
   ·rename_i k
    exact .inr (.inr ⟨q ▸ hz,fun w=>k (by rw [q,w,en])⟩)
  ·exact .inl (List.mem_singleton.mp hy)
 have upm:∀ {x ys},Up D.ns x ys->Up (setN D.ns u'++[n]) x ys:=fun {x ys} w=>w.mono fun z _ m hm=>by
  rw [ff,fs]
  have z1:z≠n.nm:=fun q=>by rw [q,hn] at hm; cases hm
  rw [if_neg z1]
  by_cases q:z=u.nm
  ·rw [if_pos q]
   rw [q,fu] at hm; cases hm
   exact ⟨_,rfl,eab⟩
  ·rw [if_neg q]; exact ⟨m,hm,rfl⟩
 have kd:∀ x,kids (setN D.ns u'++[n]) x=kids D.ns x++(if x=u.nm then [n.nm] else []):=fun x=>by
  rw [zqr,zqs h.nn hu en eab,ea]
  by_cases q:x=u.nm
  ·rw [if_pos q,if_pos (by rw [q])]
  ·rw [if_neg q,if_neg (fun z=>q (Option.some.inj z).symm)]
 have nokid:kids D.ns n.nm = []:=by
  unfold kids
  rw [List.map_eq_nil_iff,List.filter_eq_nil_iff]
  intro y hy z
  have z:=of_decide_eq_true z
  obtain ⟨ys,w,_⟩:=h.up y hy
  cases w with
  | top h1 h2=>rw [zhm h.nn hy] at h1; cases h1; rw [z] at h2; cases h2
  | on h1 h2 w =>
   rw [zhm h.nn hy] at h1; cases h1; rw [z] at h2; cases h2
   obtain ⟨m,hm⟩:=w.fnd
   rw [hn] at hm; cases hm
 obtain ⟨r,rs,er,r1,r2,r3⟩:=h.rd
 refine ⟨?_,?_,fun y hy ha=>?_,fun y hy=>?_,fun y hy d hd=>?_,fun y hy hd=>?_,fun y hy d hd=>?_,h.m1,fun y hy=>?_⟩
 ·show ((setN D.ns u'++[n]).map (·.nm)).Nodup
  rw [List.map_append,zsr,List.nodup_append]
  refine ⟨h.nn,by simp,fun a ha b hb z=>?_⟩
  have:b=n.nm:=List.mem_singleton.mp hb
  subst this
  subst z
  exact nin ha
 ·show ∃ m r,setN D.ns u'++[n] = m :: r/\_
  rw [er]
  unfold setN
  rw [List.map_cons,List.cons_append]
  by_cases q:r.nm=u'.nm
  ·rw [if_pos q]
   have:r=u:=by
    have h1:=zhm h.nn (n:=r) (by rw [er]; exact List.mem_cons_self ..)
    rw [q,en,fu] at h1; exact (Option.some.inj h1).symm
   subst this
   exact ⟨_,_,rfl,q ▸ r1,eab.trans r2,by rw [eu]; simp⟩
  ·rw [if_neg q]; exact ⟨_,_,rfl,r1,r2,r3⟩
 ·rcases mem y hy with z | z | z
  ·subst z; rw [ea] at ha; cases ha
  ·subst z; rw [en]; exact h.ra u hu (eab ▸ ha)
  ·exact h.ra y z.1 ha
 ·rcases mem y hy with z | z | z
  ·subst z
   obtain ⟨ys,w,_⟩:=h.up u hu
   refine ⟨y.nm :: ys,.on (n:=y) (by rw [ff,if_pos rfl]) ea (upm w),?_⟩
   have:=dp ys w
   rw [List.length_cons]; omega
  ·subst z
   obtain ⟨ys,w,l⟩:=h.up u hu
   exact ⟨ys,by rw [en]; exact upm w,l⟩
  ·obtain ⟨ys,w,l⟩:=h.up y z.1
   exact ⟨ys,upm w,l⟩
 ·show _=kids (setN D.ns u'++[n]) y.nm
  rw [kd]
  rcases mem y hy with z | z | z
  ·subst z
   rw [(nk d hd).1,nokid,if_neg nu]; rfl
  ·subst z
   rw [en,if_pos rfl]
   have:d=(c.1,c.2.put n.nm s):=by rw [eu] at hd; exact (Option.some.inj hd).symm
   rw [this]
   show (c.2.put n.nm s).nm.map (·.1) = _
   rw [CSt.nm_put,List.map_append,h.kid u hu c hc]; rfl
  ·rw [if_neg z.2,List.append_nil]; exact h.kid y z.1 d hd
 ·show kids (setN D.ns u'++[n]) y.nm = []
  rw [kd]
  rcases mem y hy with z | z | z
  ·subst z; rw [nokid,if_neg nu]; rfl
  ·subst z; rw [eu] at hd; cases hd
  ·rw [if_neg z.2,List.append_nil]; exact h.lf y z.1 hd
 ·rcases mem y hy with z | z | z
  ·subst z; exact (nk d hd).2
  ·subst z
   have:d=(c.1,c.2.put n.nm s):=by rw [eu] at hd; exact (Option.some.inj hd).symm
   rw [this]; exact ok
  ·exact h.cok y z.1 d hd
 ·rcases mem y hy with z | z | z
  ·subst z; exact sk
  ·subst z; rw [en]; exact h.sok u hu
  ·exact h.sok y z.1
theorem TD.Wf.new {D:TD} {n:ND} {a:At5} {b:Bool} (e:D.ns = [n]) (h1:n.nm=road) (h2:n.ab=none) (h3:n.ch=some (a,CSt.new b)) (m1:1<=D.most/\D.most<=1000000):D.Wf:=by
 have one:∀ {y},y∈D.ns->y=n:=fun {y} hy=>by rw [e] at hy; exact List.mem_singleton.mp hy
 have f:fndN D.ns n.nm=some n:=by rw [e]; unfold fndN; simp
 have kd:∀ x,kids D.ns x = []:=fun x=>by
  rw [e]; unfold kids
  simp [h2]
 refine ⟨by rw [e]; simp,⟨n,[],e,h1,h2,by rw [h3]; simp⟩,fun y hy _=>one hy ▸ h1,fun y hy=>?_,fun y hy c hc=>?_,fun y hy _=>kd _,fun y hy c hc=>?_,m1,fun y hy=>?_⟩
 ·rw [one hy]; exact ⟨[n.nm],.top f h2,by simp⟩
 ·rw [kd]
  rw [one hy,h3] at hc
  cases hc
  show (CSt.new b).nm.map _ = []
  rw [CSt.nm_new]; rfl
 ·rw [one hy,h3] at hc
  cases hc
  exact CSt.Ok.new m1.1 b
 ·rw [one hy,h1]; exact ⟨by decide +kernel,by decide +kernel⟩
theorem TD.Wf.kid_len {D:TD} (h:D.Wf) {n:ND} (hn:n∈D.ns) {c:At5×CSt} (hc:n.ch=some c):c.2.nm.length<=D.ns.length:=by
 have:=congrArg List.length (h.kid n hn c hc)
 unfold kids at this
 rw [List.length_map,List.length_map] at this
 rw [this]
 exact List.length_filter_le _ _
section
variable {C:Cl} {H H':Hp} {D:TD}
theorem TrOk.ndfoot (h:TrOk C H D) {n:ND} (hn:n∈D.ns):n.foot.Nodup:=by
 have fd:=h.fd
 unfold TD.foot at fd
 obtain ⟨l1,l2,el⟩:=List.append_of_mem hn
 rw [el,List.flatMap_append,List.flatMap_cons] at fd
 simp only [List.nodup_cons,List.nodup_append] at fd
 exact fd.2.2.2.2.1.1
theorem TrOk.chooser (h:TrOk C H D) (nd:(D.ns.map (·.nm)).Nodup) {n:ND} (hn:n∈D.ns) {a:At5} {c c':CSt} (hc:n.ch=some (a,c)) (ow:Own a H H') (C':ChS C.s C.r C.m H' a D.most c'):TrOk C H' { D with ns:=setN D.ns { n with ch:=some (a,c') } }:=by
 have fn:=h.ndfoot hn
 have N:=h.nd n hn
 have ef:ND.foot { n with ch:=some (a,c') } = n.foot:=by unfold ND.foot; rw [hc]; rfl
 have sub:∀ b∈five a,b∈n.foot:=fun b hb=>by
  unfold ND.foot
  rw [hc]
  exact List.mem_cons_of_mem _ (List.mem_cons_of_mem _ (List.mem_append.mpr (.inl hb)))
 have fd:n.foot=n.p :: n.ql :: (five a++bkF n.bk):=by unfold ND.foot; rw [hc]; rfl
 have fn':=fn
 rw [fd] at fn'
 simp only [List.nodup_cons,List.mem_cons,List.mem_append,not_or,List.nodup_append] at fn'
 obtain ⟨⟨f1,f2,f3⟩,⟨f4,f5⟩,f6,f7,f8⟩:=fn'
 have dd:=ow.deed
 have nt:∀ {b xs},H b=some (.tup xs)->b ∉ five a:=fun {b xs} e z=>by
  obtain ⟨o,ho,q⟩:=(N.ch _ hc).at z
  rw [e] at ho; exact q xs (Option.some.inj ho).symm
 obtain ⟨dx,fs,h1,h2⟩:=N.ex
 refine h.node nd hn rfl rfl (dd.mono sub) ⟨⟨dx,fs,dd _ _ f2 h1,by rw [hc] at h2; exact h2⟩,⟨dd _ _ f4 N.qu.hl,N.qu.r.keep fun p z hp=>dd _ _ (nt hp) hp⟩,fun d hd=>?_,fun b hb=>?_⟩ (by rw [ef]; exact fn) fun b hb=>.inl (by rw [ef] at hb; exact hb)
 ·cases hd; exact C'
 ·obtain ⟨dx',fs',pr,pl,b1,b2,b3,b4⟩:=(N.bk b hb).ex
  have:b.1 ∉ five a:=fun z=>f8 b.1 z b.1 (by rw [show n.bk=some b from hb]; exact List.mem_singleton.mpr rfl) rfl
  exact ⟨dx',fs',pr,pl,dd _ _ this b1,b2,dd _ _ (nt b3) b3,dd _ _ (nt b4) b4⟩
theorem TrOk.snoc (h:TrOk C H D) {n:ND} (s:Same H H') (ok:NdOk C H' D.most n) (fn:n.foot.Nodup) (fr:∀ b∈n.foot,H b=none):TrOk C (upd H' D.pn (.dK (ndK (D.ns++[n])))) { D with ns:=D.ns++[n] }:=by
 have fd:=h.fd
 unfold TD.foot at fd
 simp only [List.nodup_cons,List.mem_cons,not_or] at fd
 obtain ⟨⟨a1,a2,a3⟩,⟨b1,b2⟩,c1,d1⟩:=fd
 have nf:∀ b∈D.foot,b ∉ n.foot:=fun b hb z=>by
  obtain ⟨o,ho,_⟩:=h.at hb
  rw [fr b z] at ho; cases ho
 have kp:∀ b o,b≠D.pn->H' b=some o->upd H' D.pn (.dK (ndK (D.ns++[n]))) b=some o:=fun b o q e=>by rw [zah q]; exact e
 have tp:∀ {b xs},H' b=some (.tup xs)->b≠D.pn:=fun {b xs} e z=>by rw [z,s _ _ h.hn] at e; cases e
 obtain ⟨dx,fs,h1,h2⟩:=h.ex
 have h':=h.same s
 refine ⟨⟨dx,fs,kp _ _ a1 (s _ _ h1),h2⟩,zab,fun x hx=>?_,kp _ _ (Ne.symm b1) (s _ _ h.go),zen (fun p g z=>kp _ _ (tp z) z) h'.gr,?_⟩
 ·rcases List.mem_append.mp hx with z | z
  ·refine (h'.nd x z).keep fun b o hb e=>kp b o ?_ e
   rcases hb with q | ⟨xs,q⟩
   ·exact fun w=>b2 (w ▸ List.mem_flatMap.mpr ⟨x,z,q⟩)
   ·exact tp q
  ·rw [List.mem_singleton.mp z]
   refine ok.keep fun b o hb e=>kp b o ?_ e
   rcases hb with q | ⟨xs,q⟩
   ·exact fun w=>nf D.pn (List.mem_cons_of_mem _ (List.mem_cons_self ..)) (w ▸ q)
   ·exact tp q
 ·show (D.p :: D.pn :: D.pg :: (D.ns++[n]).flatMap ND.foot).Nodup
  rw [List.flatMap_append,List.flatMap_cons,List.flatMap_nil,List.append_nil]
  simp only [List.nodup_cons,List.mem_cons,List.mem_append,not_or,List.nodup_append]
  have f1:=nf D.p (List.mem_cons_self ..)
  have f2:=nf D.pn (List.mem_cons_of_mem _ (List.mem_cons_self ..))
  have f3:=nf D.pg (List.mem_cons_of_mem _ (List.mem_cons_of_mem _ (List.mem_cons_self ..)))
  refine ⟨⟨a1,a2,a3,f1⟩,⟨b1,b2,f2⟩,⟨c1,f3⟩,d1,fn,fun b hb c hc z=>?_⟩
  subst z
  obtain ⟨x,hx,y⟩:=List.mem_flatMap.mp hb
  exact nf b (TD.mem_node hx y) hc
end
end L2
namespace L2
open PySem PySem.Spec PyProof.Rows
theorem zeu {n:Nat} (h:n<=1000000):n<sizeLine:=by rw [sizeLine_eq]; omega
theorem zfj {n:Nat} (h:n<=1000000):n<=sizeLine:=Nat.le_of_lt (zeu h)
theorem zhb {α:Type} {l:List α} {i:Nat} {a:α} (h:l[i]? = some a):l.take (i+1)=l.take i++[a]:=by
 obtain ⟨hi,e⟩:=List.getElem?_eq_some_iff.mp h
 rw [List.take_succ_eq_append_getElem hi,e]
def StOk (n:Nat) (z:Str):Prop:=PyData.strOk z=true/\z.length<=n
theorem ok_iff {z:Str}:PyData.strOk z=true↔∀ c∈z.cps.toList,c<1114112:=by
 unfold PyData.strOk
 rw [Array.all_eq_true_iff_forall_mem]
 simp
theorem StOk.app {m n:Nat} {y z:Str} (h:StOk m y) (g:StOk n z):StOk (m+n) (y++z):=by
 refine ⟨?_,?_⟩
 ·rw [ok_iff]
  intro c hc
  have:(y++z).cps=y.cps++z.cps:=rfl
  rw [this,Array.toList_append] at hc
  rcases List.mem_append.mp hc with q | q
  ·exact (ok_iff.mp h.1) c q
  ·exact (ok_iff.mp g.1) c q
 ·have:(y++z).length=y.length+z.length:=by
   show (y.cps++z.cps).size = _
   rw [Array.size_append]; rfl
  rw [this]
  have:=h.2
  have:=g.2
  omega
theorem StOk.mono {m n:Nat} {z:Str} (h:StOk m z) (l:m<=n):StOk n z:=⟨h.1,Nat.le_trans h.2 l⟩
theorem StOk.one {c:Nat} (h:c<1114112):StOk 1 ⟨#[c]⟩:=by
 refine ⟨?_,Nat.le_refl _⟩
 rw [ok_iff]
 intro d hd
 have:d=c:=by simpa using hd
 rw [this]
 exact h
theorem zss {H:Hp} {Q:VK} (z:Str) {i:Int} (ok:PyData.strOk z=true) (h0:0<=i) (h1:i<z.length) (hz:z.length<=1000) (k:∀ y,StOk 1 y->y.length = 1->Q (.str y) H):rIxS (.str z) (.int i) H Q:=by
 have hl:z.cps.toList.length=z.length:=by simp [Str.length]
 have lt:i.toNat<z.cps.toList.length:=by omega
 have e:=zes (xs:=z.cps.toList) (j:=i.toNat) (List.getElem?_eq_getElem lt)
 rw [Int.toNat_of_nonneg h0] at e
 have hs:sizeLine = 16777216:=sizeLine_eq
 exact ⟨z,i,_,rfl,rfl,by omega,e,k _ (.one ((ok_iff.mp ok) _ (List.getElem_mem lt))) rfl⟩
def lets:Str:=Str.ofString "abcdefghijklmnopqrstuvwxyz"
def zcw (z:Str):Prop:=(1<=z.length/\z.length<=8)/\∀ c∈z.cps.toList,c∈lets.cps.toList
instance (z:Str):Decidable (zcw z):=by unfold zcw; exact inferInstance
def Inner (kd:Str):Prop:=kd=Str.ofString "starts" \/ kd=Str.ofString "rounds"
instance (kd:Str):Decidable (Inner kd):=by unfold Inner; exact inferInstance
def kdB (kd:Str):Bool:=decide (kd=Str.ofString "rounds")
theorem zmp {kd:Str}:inV (.str kd) [.str (Str.ofString "starts"),.str (Str.ofString "rounds")] = decide (Inner kd):=by
 rw [Bool.eq_iff_iff,decide_eq_true_iff]
 show (Str.ofString "starts" == kd || (Str.ofString "rounds" == kd || false))=true↔kd=Str.ofString "starts" \/ kd=Str.ofString "rounds"
 rw [Bool.or_false,Bool.or_eq_true,beq_iff_eq,beq_iff_eq]
 exact ⟨fun h=>h.imp Eq.symm Eq.symm,fun h=>h.imp Eq.symm Eq.symm⟩
theorem nd_at {C:Cl} {H:Hp} {D:TD} {x:Str} {n:ND} (O:TrOk C H D) (h:fndN D.ns x=some n):DGet H D.pn (.str x) (some (.ref n.p)):=by
 have:=DGet.k (k:=Sum.inr x) O.hn
 rw [zhn,h] at this
 exact this
def kdOk (kd:Str):Prop:=kd=Str.ofString "leaf" \/ Inner kd
instance (kd:Str):Decidable (kdOk kd):=by unfold kdOk; exact inferInstance
inductive Rf
 | name | taken | cls | place | share | length
open Classical in
noncomputable def dueP (D:TD) (x u kd:Str) (s:Int) (rm:V):Option Rf :=
 if ¬ zcw x then some .name
 else if fndN D.ns x≠none then some .taken
 else match fndN D.ns u with
  | none=>some .cls
  | some n=>if ¬ (kdOk kd/\n.ch≠none/\∀ ys,Up D.ns u ys->ys.length<=5) then some .place
   else if ¬ (1<=s/\s<=1000000) then some .share
   else if kd=Str.ofString "leaf" /\ ∃ r:Int,rm = .int r/\r<0 then some .length
   else none
section
variable {D:TD} {x u kd:Str} {s:Int} {rm:V} {n:ND}
theorem zhc (h:¬ zcw x):dueP D x u kd s rm=some .name:=by unfold dueP; rw [if_pos h]
theorem zfx (h:zcw x) (hx:fndN D.ns x≠none):dueP D x u kd s rm=some .taken:=by unfold dueP; rw [if_neg (fun z=>z h),if_pos hx]
theorem zlp (h:zcw x) (hx:fndN D.ns x=none) (hu:fndN D.ns u=none):dueP D x u kd s rm=some .cls:=by unfold dueP; rw [if_neg (fun z=>z h),if_neg (fun z=>z hx),hu]
theorem zfy (h:zcw x) (hx:fndN D.ns x=none) (hu:fndN D.ns u=some n) (c:¬ (kdOk kd/\n.ch≠none/\∀ ys,Up D.ns u ys->ys.length<=5)):dueP D x u kd s rm=some .place:=by
 unfold dueP; rw [if_neg (fun z=>z h),if_neg (fun z=>z hx),hu]
 exact if_pos c
theorem zfz (h:zcw x) (hx:fndN D.ns x=none) (hu:fndN D.ns u=some n) (c:kdOk kd/\n.ch≠none/\∀ ys,Up D.ns u ys->ys.length<=5) (d:¬ (1<=s/\s<=1000000)):dueP D x u kd s rm=some .share:=by
 unfold dueP; rw [if_neg (fun z=>z h),if_neg (fun z=>z hx),hu]
 exact (if_neg (fun z=>z c)).trans (if_pos d)
theorem zgl (h:zcw x) (hx:fndN D.ns x=none) (hu:fndN D.ns u=some n) (c:kdOk kd/\n.ch≠none/\∀ ys,Up D.ns u ys->ys.length<=5) (d:1<=s/\s<=1000000) (e:kd=Str.ofString "leaf" /\ ∃ r:Int,rm = .int r/\r<0):dueP D x u kd s rm=some .length:=by
 unfold dueP; rw [if_neg (fun z=>z h),if_neg (fun z=>z hx),hu]
 exact (if_neg (fun z=>z c)).trans ((if_neg (fun z=>z d)).trans (if_pos e))
theorem zjg (h:zcw x) (hx:fndN D.ns x=none) (hu:fndN D.ns u=some n) (c:kdOk kd/\n.ch≠none/\∀ ys,Up D.ns u ys->ys.length<=5) (d:1<=s/\s<=1000000) (e:¬ (kd=Str.ofString "leaf" /\ ∃ r:Int,rm = .int r/\r<0)):dueP D x u kd s rm=none:=by
 unfold dueP; rw [if_neg (fun z=>z h),if_neg (fun z=>z hx),hu]
 exact (if_neg (fun z=>z c)).trans ((if_neg (fun z=>z d)).trans (if_neg e))
end
def Rf.at (cN cT cC cP cS cL:Addr):Rf->Addr
 | .name=>cN
 | .taken=>cT
 | .cls=>cC
 | .place=>cP
 | .share=>cS
 | .length=>cL
def TD.put (D:TD) (u:ND) (c:At5×CSt) (s:Int) (n:ND):TD:={ D with ns:=setN D.ns { u with ch:=some (c.1,c.2.put n.nm s) }++[n] }
def TD.full (D:TD):Prop:=D.ns.length<=60/\∀ n∈D.ns,∀ c,n.ch=some c->c.2.sz<=4*D.ns.length
section
variable {X:Cx}
theorem zud {c:Expr} {a b:List Stmt} {tc:TT} {t u:TS} {pos:Pos} (hc:PT X c tc) (ha:PSsx X a t) (hb:PSs X b u):PSx X (.If c a b pos) (tIfS tc t u):=⟨ps_if hc ha.h hb⟩
theorem zst {tg iter:Expr} {body:List Stmt} {wi:TI} {g:TG} {tb:TS} {pos:Pos} (hp:PassesOwn (model X.prog X.w) X.A X.env X.xe) (hc:X.calm=true) (hi:PI X tg iter wi) (hg:PG X tg g) (hb:PSsx X body tb)
    (hs:∀ x,foldedSetIterable iter X.env x=pure x:=by intro _; rfl):PSx X (.For tg iter body [] pos) (tFor wi g tb):=⟨zrb hp hc hi hg hb.h hs⟩
theorem zue {a b:Expr} {ta tb:TE} {r:R2} {pos:Pos} (hr:IxR X r) (ha:PEx X a ta) (hb:PE X b tb) (hs:zob b):PEx X (.Subscript a b pos) (tOp r ta tb):=⟨pe_ix hr ha.h hb hs⟩
end
theorem zdb (l:List Str) (h:∀ x∈l,PyData.strOk x=true):PySem.SeqAt.shaped (.list (l.map PyData.str))=true:=by
 have c:PyData.canLayAll0 (l.map PyData.str)=true:=by
  induction l with
  | nil=>rfl
  | cons x r ih =>
   simp only [List.map_cons,PyData.canLayAll0,PyData.canLay0,Bool.and_eq_true]
   exact ⟨h x (by simp),ih fun y hy=>h y (List.mem_cons_of_mem _ hy)⟩
 have d:=zkd (f:=PyData.str) (n:=0) (fun _=>by simp [PyData.depth]) l
 unfold PySem.SeqAt.shaped
 rw [Bool.and_eq_true,decide_eq_true_eq]
 refine ⟨by simpa only [PyData.canLay0] using c,?_⟩
 simp only [PyData.depth]
 omega
theorem zpl {K:PySem.W.Frag} {H:Hp} {l p:Addr} {ks:List Str} {Q:VK} (hk:H l=some (.lst (ks.map V.str))) (ok:∀ z∈ks,PyData.strOk z=true) (hp:H p=some (.lst [])) (q:Q (.bl (decide (ks≠[]))) H):rNeD K (.ref l) (.ref p) H Q:=by
 refine ne_at (.lst (.of hk) (zbv _)) (.lst (.of hp) .nil) (zdb _ ok) rfl ?_
 cases ks with
 | nil=>exact q
 | cons x r=>exact q
theorem ixNum {K:PySem.W.Frag} {H:Hp} {l:Addr} {xs:List Int} {Q:VK} (i:Nat) (hl:H l=some (.lst (xs.map V.int))) (hi:i<xs.length) (k:∀ y∈xs,Q (.int y) H):rIxL K (.ref l) (.int (i:Int)) H Q:=by
 have e:=zes (xs:=xs.map V.int) (j:=i) (v:=V.int (xs[i]'hi)) (by simp)
 exact zgr (.of hl) e (k _ (List.getElem_mem hi))
theorem ixW {K:PySem.W.Frag} {H:Hp} {l:Addr} {ks:List Str} {Q:VK} {y:Int} (hl:H l=some (.lst (ks.map V.str))) (h0:0<=y) (h1:y<ks.length) (k:∀ z∈ks,Q (.str z) H):rIxL K (.ref l) (.int y) H Q:=by
 have e:=zes (xs:=ks.map V.str) (j:=y.toNat) (v:=V.str (ks[y.toNat]'(by omega))) (by simp)
 rw [Int.toNat_of_nonneg h0] at e
 exact zgr (.of hl) e (k _ (List.getElem_mem _))
theorem RoomN.units66 {k:Nat} {A:Around} (r:RoomN k A):A.units+66<cLine:=by have:=r.un; omega
theorem Same.app {H H':Hp} {l:Addr} {o:HO} (s:Same H H') (hl:H l=none):Same H (upd H' l o):=fun b u e=>by rw [zah (zan e hl)]; exact s _ _ e
theorem zmq {c:TT} {t1 t2:TS} {D:Ends} {σ:St} {H:Hp} (h:∀ G:St->Hp->Prop,(∀ σ H,t1 D σ H->G σ H)->tIfS c (fun _ σ H=>G σ H) t2 D σ H):tIfS c t1 t2 D σ H:=h (t1 D) fun _ _ z=>z
end L2
local macro_rules | `(tactic| walk_at "rd")=>`(tactic| try simp only [L2.tAsg,L2.tOp,L2.tUn,L2.gName,L2.tVar,L2.tC,L2.rI,L2.rI0,L2.rU,L2.rEq,L2.rNe,L2.scal,L2.tTest,L2.tIfS,L2.tRet,L2.tRetN,L2.tNext,L2.tDrop,L2.tCB,L2.tCons,L2.tNil,L2.tCall,L2.tAndV,L2.tOrV,L2.tNotV,L2.tAnd,L2.tOr,L2.tNot,L2.tB,L2.tIf,L2.tChain,L2.tTup,L2.tLst,L2.tBM,L2.tBM0,L2.tComp_eq,L2.tCallX,L2.tCallN,L2.tDGet,L2.tDGet1,L2.tDGet2,L2.sDPut,L2.tDIn,L2.tDNotIn,L2.tDSd,L2.tDNewK,L2.tTru,L2.tFld_eq,L2.sFld_eq,L2.tMethX_eq,L2.tMakeX,L2.tXmk,L2.tXmk1,L2.tRaise,L2.tTry,L2.tTryAs,L2.hkOf,L2.iList,L2.iTup,L2.iEnum,L2.iRng1,L2.iRng2,L2.iRng3,L2.iEnum1,L2.iRev,L2.tSl,L2.tPart,L2.tNoPart,L2.gTup,L2.gCons,L2.gNil,L2.spInt1,L2.spInt2,L2.spWhole,
 List.getElem?_cons_zero,List.getElem?_cons_succ,List.set_cons_zero,List.set_cons_succ,List.cons_append,List.nil_append,List.append_nil,Option.some.injEq,L2.V.int.injEq,L2.V.bl.injEq,L2.V.ref.injEq,L2.V.str.injEq,List.cons.injEq,exists_eq_left',exists_eq_left,exists_eq_right,exists_and_left,exists_and_right,and_true,true_and,and_self,exists_const,exists_eq,exists_eq',and_assoc,decide_eq_true_eq,Bool.not_eq_true',Bool.not_true,Bool.not_false,Bool.false_eq_true,Bool.true_eq_false,if_true,if_false,decide_eq_false_iff_not,ite_not,↓reduceIte,Int.reduceLT,Int.reduceLE,Int.reducePow,Int.reduceMul,Int.reduceAdd,Int.reduceSub,Int.reduceNeg,Int.reduceToNat,Int.reduceEq,Int.reduceNe,L2.CPow,L2.cmulL_lit,L2.line_lit,L2.line_lt,List.length_cons,List.length_nil,Nat.reduceAdd,Nat.zero_add,L2.cdivL_lit,Int.natAbs_natCast,Int.natAbs_neg,Nat.reducePow,Nat.reduceLT,Nat.reduceLeDiff,Int.natAbs,L2.tPar,ne_eq,not_false_eq_true,not_true_eq_false])
local macro_rules | `(tactic| walk_at "rds")=>`(tactic| try simp only [L2.tSeq,L2.tAsg,L2.tOp,L2.tUn,L2.gName,L2.tVar,L2.tC,L2.rI,L2.rI0,L2.rU,L2.rEq,L2.rNe,L2.scal,L2.tTest,L2.tIfS,L2.tRet,L2.tRetN,L2.tNext,L2.tDrop,L2.tCB,L2.tCons,L2.tNil,L2.tCall,L2.tAndV,L2.tOrV,L2.tNotV,L2.tAnd,L2.tOr,L2.tNot,L2.tB,L2.tIf,L2.tChain,L2.tTup,L2.tLst,L2.tBM,L2.tBM0,L2.tComp_eq,L2.tCallX,L2.tCallN,L2.tDGet,L2.tDGet1,L2.tDGet2,L2.sDPut,L2.tDIn,L2.tDNotIn,L2.tDSd,L2.tDNewK,L2.tTru,L2.tFld_eq,L2.sFld_eq,L2.tMethX_eq,L2.tMakeX,L2.tXmk,L2.tXmk1,L2.tRaise,L2.tTry,L2.tTryAs,L2.hkOf,L2.iList,L2.iTup,L2.iEnum,L2.iRng1,L2.iRng2,L2.iRng3,L2.iEnum1,L2.iRev,L2.tSl,L2.tPart,L2.tNoPart,L2.gTup,L2.gCons,L2.gNil,L2.spInt1,L2.spInt2,L2.spWhole,
 List.getElem?_cons_zero,List.getElem?_cons_succ,List.set_cons_zero,List.set_cons_succ,List.cons_append,List.nil_append,List.append_nil,Option.some.injEq,L2.V.int.injEq,L2.V.bl.injEq,L2.V.ref.injEq,L2.V.str.injEq,List.cons.injEq,exists_eq_left',exists_eq_left,exists_eq_right,exists_and_left,exists_and_right,and_true,true_and,and_self,exists_const,exists_eq,exists_eq',and_assoc,decide_eq_true_eq,Bool.not_eq_true',Bool.not_true,Bool.not_false,Bool.false_eq_true,Bool.true_eq_false,if_true,if_false,decide_eq_false_iff_not,ite_not,↓reduceIte,Int.reduceLT,Int.reduceLE,Int.reducePow,Int.reduceMul,Int.reduceAdd,Int.reduceSub,Int.reduceNeg,Int.reduceToNat,Int.reduceEq,Int.reduceNe,L2.CPow,L2.cmulL_lit,L2.line_lit,L2.line_lt,List.length_cons,List.length_nil,Nat.reduceAdd,Nat.zero_add,L2.cdivL_lit,Int.natAbs_natCast,Int.natAbs_neg,Nat.reducePow,Nat.reduceLT,Nat.reduceLeDiff,Int.natAbs,L2.tPar,ne_eq,not_false_eq_true,not_true_eq_false])
namespace K61
open PySem L2 PyProof.Rows
def top (i:Nat):Stmt:=PySem.Challenge.pw_sharewheel_k61_who_is_put_in.main.body.getD i (.Pass ⟨0,0,0,0⟩)
abbrev zeh:Stmt:=top 11
abbrev zgm:Stmt:=top 12
abbrev zho:Stmt:=top 13
abbrev zev:Stmt:=top 14
abbrev zcq:Stmt:=top 17
abbrev zdc:Stmt:=top 31
abbrev zei:Stmt:=top 32
abbrev zdd:Stmt:=top 33
abbrev zci:Stmt:=top 37
abbrev zcr:Stmt:=top 38
abbrev zdl:Stmt:=top 39
abbrev zdm:Stmt:=top 40
abbrev zdn:Stmt:=top 41
abbrev zds:Stmt:=top 42
abbrev zde:Stmt:=top 43
abbrev zdt:Stmt:=top 44
abbrev zcs:Stmt:=top 45
abbrev zdf:Stmt:=top 46
abbrev zcd:Stmt:=top 47
abbrev zbt:Stmt:=top 48
abbrev s_law:Stmt:=top 49
theorem sc_divisor:FnScope ["one", "other", "great", "small", "rest"] ["one", "other"] (zac zeh):=⟨rfl,rfl,rfl,by decide +kernel,rfl,by decide +kernel,by decide +kernel⟩
theorem sc_ratio:FnScope ["top", "bottom", "common"] ["top", "bottom"] (zac zgm):=⟨rfl,rfl,rfl,by decide +kernel,rfl,by decide +kernel,by decide +kernel⟩
theorem zhz:FnScope ["share"] ["share"] (zac zcq):=⟨rfl,rfl,rfl,by decide +kernel,rfl,by decide +kernel,by decide +kernel⟩
theorem zjh:FnScope ["most"] ["most"] (zac zdc):=⟨rfl,rfl,rfl,by decide +kernel,rfl,by decide +kernel,by decide +kernel⟩
theorem zng:FnScope ["text"] ["text"] (zac zei):=⟨rfl,rfl,rfl,by decide +kernel,rfl,by decide +kernel,by decide +kernel⟩
theorem zji:FnScope ["kind", "most"] ["kind", "most"] (zac zdd):=⟨rfl,rfl,rfl,by decide +kernel,rfl,by decide +kernel,by decide +kernel⟩
theorem zhp:FnScope ["_law_script", "_law_k"] ["_law_script", "_law_k"] (zac zci):=⟨rfl,rfl,rfl,by decide +kernel,rfl,by decide +kernel,by decide +kernel⟩
theorem sc__law_stream:FnScope ["_law_cell", "_law_many", "_law_found", "_law_number", "_law_k"] ["_law_cell", "_law_many"] (zac zcr):=⟨rfl,rfl,rfl,by decide +kernel,rfl,by decide +kernel,by decide +kernel⟩
theorem sc__law_word:FnScope ["_law_xs", "_law_size", "_law_signs"] ["_law_xs", "_law_size"] (zac zdl):=⟨rfl,rfl,rfl,by decide +kernel,rfl,by decide +kernel,by decide +kernel⟩
theorem sc__law_name:FnScope ["_law_xs", "_law_known", "_law_way", "_law_name_here", "_law_odd"] ["_law_xs", "_law_known"] (zac zdm):=⟨rfl,rfl,rfl,by decide +kernel,rfl,by decide +kernel,by decide +kernel⟩
theorem sc__law_deep:FnScope ["_law_world", "_law_name_here", "_law_deep_here"] ["_law_world", "_law_name_here"] (zac zdn):=⟨rfl,rfl,rfl,by decide +kernel,rfl,by decide +kernel,by decide +kernel⟩
theorem sc__law_due:FnScope ["_law_world", "_law_name_here", "_law_above", "_law_kind", "_law_share", "_law_room", "_law_signs"] ["_law_world", "_law_name_here", "_law_above", "_law_kind", "_law_share", "_law_room"] (zac zds):=⟨rfl,rfl,rfl,by decide +kernel,rfl,by decide +kernel,by decide +kernel⟩
theorem sc__law_other:FnScope ["_law_e", "_law_many", "_law_alike"] ["_law_e", "_law_many"] (zac zde):=⟨rfl,rfl,rfl,by decide +kernel,rfl,by decide +kernel,by decide +kernel⟩
theorem sc__law_put:FnScope ["_law_tree", "_law_name_here", "_law_above", "_law_kind", "_law_share", "_law_room", "_law_told"] ["_law_tree", "_law_name_here", "_law_above", "_law_kind", "_law_share", "_law_room"] (zac zdt):=⟨rfl,rfl,rfl,by decide +kernel,rfl,by decide +kernel,by decide +kernel⟩
theorem sc__law_caught:FnScope ["_law_tree", "_law_name_here", "_law_above", "_law_kind", "_law_share", "_law_room", "_law_e"] ["_law_tree", "_law_name_here", "_law_above", "_law_kind", "_law_share", "_law_room"] (zac zcs):=⟨rfl,rfl,rfl,by decide +kernel,rfl,by decide +kernel,by decide +kernel⟩
theorem zjj:FnScope ["_law_world", "_law_above"] ["_law_world", "_law_above"] (zac zdf):=⟨rfl,rfl,rfl,by decide +kernel,rfl,by decide +kernel,by decide +kernel⟩
theorem sc__law_stranger:FnScope ["_law_tree", "_law_name_here", "_law_found"] ["_law_tree", "_law_name_here"] (zac zcd):=⟨rfl,rfl,rfl,by decide +kernel,rfl,by decide +kernel,by decide +kernel⟩
theorem sc__law_all_stand:FnScope ["_law_tree", "_law_world", "_law_name_here", "_law_place", "_law_way", "_law_told"] ["_law_tree", "_law_world"] (zac zbt):=⟨rfl,rfl,rfl,by decide +kernel,rfl,by decide +kernel,by decide +kernel⟩
theorem sc_law:FnScope ["_law_script", "_law_cell", "_law_most", "_law_tree", "_law_world", "_law_xs", "_law_known", "_law_name_here", "_law_above", "_law_kind", "_law_share", "_law_room", "_law_due_here"] ["_law_script"] (zac s_law):=⟨rfl,rfl,rfl,by decide +kernel,rfl,by decide +kernel,by decide +kernel⟩
abbrev zbx:Stmt:=zbn (top 18) 0
theorem zhq:FnScope ["self"] ["self"] (zac zbx):=⟨rfl,rfl,rfl,by decide +kernel,rfl,by decide +kernel,by decide +kernel⟩
abbrev zbc:Stmt:=zbn (top 18) 1
abbrev zcf:Stmt:=zbn (top 18) 2
theorem zia:FnScope ["self", "name", "share"] ["self", "name", "share"] (zac zcf):=⟨rfl,rfl,rfl,by decide +kernel,rfl,by decide +kernel,by decide +kernel⟩
abbrev zbs:Stmt:=zbn (top 18) 5
theorem zgw:FnScope ["self"] ["self"] (zac zbs):=⟨rfl,rfl,rfl,by decide +kernel,rfl,by decide +kernel,by decide +kernel⟩
abbrev zcg:Stmt:=zbn (top 21) 0
theorem zib:FnScope ["self", "most"] ["self", "most"] (zac zcg):=⟨rfl,rfl,rfl,by decide +kernel,rfl,by decide +kernel,by decide +kernel⟩
abbrev zby:Stmt:=zbn (top 21) 1
theorem zhr:FnScope ["self", "name"] ["self", "name"] (zac zby):=⟨rfl,rfl,rfl,by decide +kernel,rfl,by decide +kernel,by decide +kernel⟩
abbrev zce:Stmt:=zbn (top 21) 7
abbrev zay:Stmt:=zbn (top 20) 0
theorem zfc:FnScope ["self", "most"] ["self", "most"] (zac zay):=⟨rfl,rfl,rfl,by decide +kernel,rfl,by decide +kernel,by decide +kernel⟩
abbrev zcn:Stmt:=zbn (top 20) 1
theorem zjk:FnScope ["self", "name", "share"] ["self", "name", "share"] (zac zcn):=⟨rfl,rfl,rfl,by decide +kernel,rfl,by decide +kernel,by decide +kernel⟩
abbrev zbz:Stmt:=zbn (top 20) 4
theorem zhs:FnScope ["self"] ["self"] (zac zbz):=⟨rfl,rfl,rfl,by decide +kernel,rfl,by decide +kernel,by decide +kernel⟩
abbrev zch:Stmt:=zbn (top 22) 0
theorem zic:FnScope ["self", "most"] ["self", "most"] (zac zch):=⟨rfl,rfl,rfl,by decide +kernel,rfl,by decide +kernel,by decide +kernel⟩
abbrev zca:Stmt:=zbn (top 22) 1
theorem zht:FnScope ["self", "name"] ["self", "name"] (zac zca):=⟨rfl,rfl,rfl,by decide +kernel,rfl,by decide +kernel,by decide +kernel⟩
abbrev zct:Stmt:=zbn (top 22) 9
abbrev zaz:Stmt:=zbn (top 20) 0
theorem zfd:FnScope ["self", "most"] ["self", "most"] (zac zaz):=⟨rfl,rfl,rfl,by decide +kernel,rfl,by decide +kernel,by decide +kernel⟩
abbrev zco:Stmt:=zbn (top 20) 1
theorem zjl:FnScope ["self", "name", "share"] ["self", "name", "share"] (zac zco):=⟨rfl,rfl,rfl,by decide +kernel,rfl,by decide +kernel,by decide +kernel⟩
abbrev zcb:Stmt:=zbn (top 20) 4
theorem zhu:FnScope ["self"] ["self"] (zac zcb):=⟨rfl,rfl,rfl,by decide +kernel,rfl,by decide +kernel,by decide +kernel⟩
abbrev zbk:Stmt:=zbn (top 34) 0
theorem zkq:FnScope ["self", "above", "chooser", "room"] ["self", "above", "chooser", "room"] (zac zbk):=⟨rfl,rfl,rfl,by decide +kernel,rfl,by decide +kernel,by decide +kernel⟩
abbrev zbl:Stmt:=zbn (top 35) 0
theorem zkr:FnScope ["self", "most", "kind"] ["self", "most", "kind"] (zac zbl):=⟨rfl,rfl,rfl,by decide +kernel,rfl,by decide +kernel,by decide +kernel⟩
abbrev zba:Stmt:=zbn (top 35) 1
theorem zfk:FnScope ["self", "name"] ["self", "name"] (zac zba):=⟨rfl,rfl,rfl,by decide +kernel,rfl,by decide +kernel,by decide +kernel⟩
abbrev zbb:Stmt:=zbn (top 35) 3
theorem zfl:FnScope ["self", "under", "kind"] ["self", "under", "kind"] (zac zbb):=⟨rfl,rfl,rfl,by decide +kernel,rfl,by decide +kernel,by decide +kernel⟩
abbrev zbu:Stmt:=zbn (top 35) 4
theorem zlq:FnScope ["self", "name", "under", "kind", "share", "room"] ["self", "name", "under", "kind", "share", "room"] (zac zbu):=⟨rfl,rfl,rfl,by decide +kernel,rfl,by decide +kernel,by decide +kernel⟩
abbrev zdo:Stmt:=zbn (top 35) 15
theorem zlr:FnScope ["self", "name"] ["self", "name"] (zac zdo):=⟨rfl,rfl,rfl,by decide +kernel,rfl,by decide +kernel,by decide +kernel⟩
abbrev zcp:Stmt:=zbn (top 35) 16
theorem sc_Tree_below:FnScope ["self", "name", "chooser"] ["self", "name"] (zac zcp):=⟨rfl,rfl,rfl,by decide +kernel,rfl,by decide +kernel,by decide +kernel⟩
abbrev zbm:Stmt:=zbn (top 35) 21
theorem sc_Tree_from_road:FnScope ["self", "name", "names"] ["self", "name"] (zac zbm):=⟨rfl,rfl,rfl,by decide +kernel,rfl,by decide +kernel,by decide +kernel⟩
structure Txt (K:PySem.W.Frag) (mg:Str->Option Value) (c_WheelError:Addr) (c_NoName:Addr) (c_Taken:Addr) (c_NoClass:Addr) (c_NoPlace:Addr) (c_NoShare:Addr) (c_NoLength:Addr) (c_Members:Addr) (c_Chooser:Addr) (c_Starts:Addr) (c_Rounds:Addr) (c_Node:Addr) (c_Tree:Addr):Prop where
 mg_WheelError:mg "WheelError" = some (.ref c_WheelError)
 xc_WheelError:XC K c_WheelError
 kp_WheelError:PySem.W.keepIn K (.ref c_WheelError)=true
 ex_WheelError:PySem.W.excIn K c_WheelError bmV "ValueError.__new__" = true
 mg_NoName:mg "NoName" = some (.ref c_NoName)
 xc_NoName:XC K c_NoName
 kp_NoName:PySem.W.keepIn K (.ref c_NoName)=true
 ex_NoName:PySem.W.excIn K c_NoName bmV "ValueError.__new__" = true
 mg_Taken:mg "Taken" = some (.ref c_Taken)
 xc_Taken:XC K c_Taken
 kp_Taken:PySem.W.keepIn K (.ref c_Taken)=true
 ex_Taken:PySem.W.excIn K c_Taken bmV "ValueError.__new__" = true
 mg_NoClass:mg "NoClass" = some (.ref c_NoClass)
 xc_NoClass:XC K c_NoClass
 kp_NoClass:PySem.W.keepIn K (.ref c_NoClass)=true
 ex_NoClass:PySem.W.excIn K c_NoClass bmV "ValueError.__new__" = true
 mg_NoPlace:mg "NoPlace" = some (.ref c_NoPlace)
 xc_NoPlace:XC K c_NoPlace
 kp_NoPlace:PySem.W.keepIn K (.ref c_NoPlace)=true
 ex_NoPlace:PySem.W.excIn K c_NoPlace bmV "ValueError.__new__" = true
 mg_NoShare:mg "NoShare" = some (.ref c_NoShare)
 xc_NoShare:XC K c_NoShare
 kp_NoShare:PySem.W.keepIn K (.ref c_NoShare)=true
 ex_NoShare:PySem.W.excIn K c_NoShare bmV "ValueError.__new__" = true
 mg_NoLength:mg "NoLength" = some (.ref c_NoLength)
 xc_NoLength:XC K c_NoLength
 kp_NoLength:PySem.W.keepIn K (.ref c_NoLength)=true
 ex_NoLength:PySem.W.excIn K c_NoLength bmV "ValueError.__new__" = true
 sub_NoName_WheelError:PySem.W.subIn K (.ref c_NoName) (.ref c_WheelError)=some true
 kit_NoName_WheelError:PySem.W.kitOne K (.ref c_NoName) (.ref c_WheelError)=some true
 sub_NoName_NoName:PySem.W.subIn K (.ref c_NoName) (.ref c_NoName)=some true
 kit_NoName_NoName:PySem.W.kitOne K (.ref c_NoName) (.ref c_NoName)=some true
 sub_NoName_Taken:PySem.W.subIn K (.ref c_NoName) (.ref c_Taken)=some false
 kit_NoName_Taken:PySem.W.kitOne K (.ref c_NoName) (.ref c_Taken)=some false
 sub_NoName_NoClass:PySem.W.subIn K (.ref c_NoName) (.ref c_NoClass)=some false
 kit_NoName_NoClass:PySem.W.kitOne K (.ref c_NoName) (.ref c_NoClass)=some false
 sub_NoName_NoPlace:PySem.W.subIn K (.ref c_NoName) (.ref c_NoPlace)=some false
 kit_NoName_NoPlace:PySem.W.kitOne K (.ref c_NoName) (.ref c_NoPlace)=some false
 sub_NoName_NoShare:PySem.W.subIn K (.ref c_NoName) (.ref c_NoShare)=some false
 kit_NoName_NoShare:PySem.W.kitOne K (.ref c_NoName) (.ref c_NoShare)=some false
 sub_NoName_NoLength:PySem.W.subIn K (.ref c_NoName) (.ref c_NoLength)=some false
 kit_NoName_NoLength:PySem.W.kitOne K (.ref c_NoName) (.ref c_NoLength)=some false
 kit_NoName_ValueError:PySem.W.kitOne K (.ref c_NoName) (.type "ValueError")=some true
 sub_Taken_WheelError:PySem.W.subIn K (.ref c_Taken) (.ref c_WheelError)=some true
 kit_Taken_WheelError:PySem.W.kitOne K (.ref c_Taken) (.ref c_WheelError)=some true
 sub_Taken_NoName:PySem.W.subIn K (.ref c_Taken) (.ref c_NoName)=some false
 kit_Taken_NoName:PySem.W.kitOne K (.ref c_Taken) (.ref c_NoName)=some false
 sub_Taken_Taken:PySem.W.subIn K (.ref c_Taken) (.ref c_Taken)=some true
 kit_Taken_Taken:PySem.W.kitOne K (.ref c_Taken) (.ref c_Taken)=some true
 sub_Taken_NoClass:PySem.W.subIn K (.ref c_Taken) (.ref c_NoClass)=some false
 kit_Taken_NoClass:PySem.W.kitOne K (.ref c_Taken) (.ref c_NoClass)=some false
 sub_Taken_NoPlace:PySem.W.subIn K (.ref c_Taken) (.ref c_NoPlace)=some false
 kit_Taken_NoPlace:PySem.W.kitOne K (.ref c_Taken) (.ref c_NoPlace)=some false
 sub_Taken_NoShare:PySem.W.subIn K (.ref c_Taken) (.ref c_NoShare)=some false
 kit_Taken_NoShare:PySem.W.kitOne K (.ref c_Taken) (.ref c_NoShare)=some false
 sub_Taken_NoLength:PySem.W.subIn K (.ref c_Taken) (.ref c_NoLength)=some false
 kit_Taken_NoLength:PySem.W.kitOne K (.ref c_Taken) (.ref c_NoLength)=some false
 kit_Taken_ValueError:PySem.W.kitOne K (.ref c_Taken) (.type "ValueError")=some true
 sub_NoClass_WheelError:PySem.W.subIn K (.ref c_NoClass) (.ref c_WheelError)=some true
 kit_NoClass_WheelError:PySem.W.kitOne K (.ref c_NoClass) (.ref c_WheelError)=some true
 sub_NoClass_NoName:PySem.W.subIn K (.ref c_NoClass) (.ref c_NoName)=some false
 kit_NoClass_NoName:PySem.W.kitOne K (.ref c_NoClass) (.ref c_NoName)=some false
 sub_NoClass_Taken:PySem.W.subIn K (.ref c_NoClass) (.ref c_Taken)=some false
 kit_NoClass_Taken:PySem.W.kitOne K (.ref c_NoClass) (.ref c_Taken)=some false
 sub_NoClass_NoClass:PySem.W.subIn K (.ref c_NoClass) (.ref c_NoClass)=some true
 kit_NoClass_NoClass:PySem.W.kitOne K (.ref c_NoClass) (.ref c_NoClass)=some true
 sub_NoClass_NoPlace:PySem.W.subIn K (.ref c_NoClass) (.ref c_NoPlace)=some false
 kit_NoClass_NoPlace:PySem.W.kitOne K (.ref c_NoClass) (.ref c_NoPlace)=some false
 sub_NoClass_NoShare:PySem.W.subIn K (.ref c_NoClass) (.ref c_NoShare)=some false
 kit_NoClass_NoShare:PySem.W.kitOne K (.ref c_NoClass) (.ref c_NoShare)=some false
 sub_NoClass_NoLength:PySem.W.subIn K (.ref c_NoClass) (.ref c_NoLength)=some false
 kit_NoClass_NoLength:PySem.W.kitOne K (.ref c_NoClass) (.ref c_NoLength)=some false
 kit_NoClass_ValueError:PySem.W.kitOne K (.ref c_NoClass) (.type "ValueError")=some true
 sub_NoPlace_WheelError:PySem.W.subIn K (.ref c_NoPlace) (.ref c_WheelError)=some true
 kit_NoPlace_WheelError:PySem.W.kitOne K (.ref c_NoPlace) (.ref c_WheelError)=some true
 sub_NoPlace_NoName:PySem.W.subIn K (.ref c_NoPlace) (.ref c_NoName)=some false
 kit_NoPlace_NoName:PySem.W.kitOne K (.ref c_NoPlace) (.ref c_NoName)=some false
 sub_NoPlace_Taken:PySem.W.subIn K (.ref c_NoPlace) (.ref c_Taken)=some false
 kit_NoPlace_Taken:PySem.W.kitOne K (.ref c_NoPlace) (.ref c_Taken)=some false
 sub_NoPlace_NoClass:PySem.W.subIn K (.ref c_NoPlace) (.ref c_NoClass)=some false
 kit_NoPlace_NoClass:PySem.W.kitOne K (.ref c_NoPlace) (.ref c_NoClass)=some false
 sub_NoPlace_NoPlace:PySem.W.subIn K (.ref c_NoPlace) (.ref c_NoPlace)=some true
 kit_NoPlace_NoPlace:PySem.W.kitOne K (.ref c_NoPlace) (.ref c_NoPlace)=some true
 sub_NoPlace_NoShare:PySem.W.subIn K (.ref c_NoPlace) (.ref c_NoShare)=some false
 kit_NoPlace_NoShare:PySem.W.kitOne K (.ref c_NoPlace) (.ref c_NoShare)=some false
 sub_NoPlace_NoLength:PySem.W.subIn K (.ref c_NoPlace) (.ref c_NoLength)=some false
 kit_NoPlace_NoLength:PySem.W.kitOne K (.ref c_NoPlace) (.ref c_NoLength)=some false
 kit_NoPlace_ValueError:PySem.W.kitOne K (.ref c_NoPlace) (.type "ValueError")=some true
 sub_NoShare_WheelError:PySem.W.subIn K (.ref c_NoShare) (.ref c_WheelError)=some true
 kit_NoShare_WheelError:PySem.W.kitOne K (.ref c_NoShare) (.ref c_WheelError)=some true
 sub_NoShare_NoName:PySem.W.subIn K (.ref c_NoShare) (.ref c_NoName)=some false
 kit_NoShare_NoName:PySem.W.kitOne K (.ref c_NoShare) (.ref c_NoName)=some false
 sub_NoShare_Taken:PySem.W.subIn K (.ref c_NoShare) (.ref c_Taken)=some false
 kit_NoShare_Taken:PySem.W.kitOne K (.ref c_NoShare) (.ref c_Taken)=some false
 sub_NoShare_NoClass:PySem.W.subIn K (.ref c_NoShare) (.ref c_NoClass)=some false
 kit_NoShare_NoClass:PySem.W.kitOne K (.ref c_NoShare) (.ref c_NoClass)=some false
 sub_NoShare_NoPlace:PySem.W.subIn K (.ref c_NoShare) (.ref c_NoPlace)=some false
 kit_NoShare_NoPlace:PySem.W.kitOne K (.ref c_NoShare) (.ref c_NoPlace)=some false
 sub_NoShare_NoShare:PySem.W.subIn K (.ref c_NoShare) (.ref c_NoShare)=some true
 kit_NoShare_NoShare:PySem.W.kitOne K (.ref c_NoShare) (.ref c_NoShare)=some true
 sub_NoShare_NoLength:PySem.W.subIn K (.ref c_NoShare) (.ref c_NoLength)=some false
 kit_NoShare_NoLength:PySem.W.kitOne K (.ref c_NoShare) (.ref c_NoLength)=some false
 kit_NoShare_ValueError:PySem.W.kitOne K (.ref c_NoShare) (.type "ValueError")=some true
 sub_NoLength_WheelError:PySem.W.subIn K (.ref c_NoLength) (.ref c_WheelError)=some true
 kit_NoLength_WheelError:PySem.W.kitOne K (.ref c_NoLength) (.ref c_WheelError)=some true
 sub_NoLength_NoName:PySem.W.subIn K (.ref c_NoLength) (.ref c_NoName)=some false
 kit_NoLength_NoName:PySem.W.kitOne K (.ref c_NoLength) (.ref c_NoName)=some false
 sub_NoLength_Taken:PySem.W.subIn K (.ref c_NoLength) (.ref c_Taken)=some false
 kit_NoLength_Taken:PySem.W.kitOne K (.ref c_NoLength) (.ref c_Taken)=some false
 sub_NoLength_NoClass:PySem.W.subIn K (.ref c_NoLength) (.ref c_NoClass)=some false
 kit_NoLength_NoClass:PySem.W.kitOne K (.ref c_NoLength) (.ref c_NoClass)=some false
 sub_NoLength_NoPlace:PySem.W.subIn K (.ref c_NoLength) (.ref c_NoPlace)=some false
 kit_NoLength_NoPlace:PySem.W.kitOne K (.ref c_NoLength) (.ref c_NoPlace)=some false
 sub_NoLength_NoShare:PySem.W.subIn K (.ref c_NoLength) (.ref c_NoShare)=some false
 kit_NoLength_NoShare:PySem.W.kitOne K (.ref c_NoLength) (.ref c_NoShare)=some false
 sub_NoLength_NoLength:PySem.W.subIn K (.ref c_NoLength) (.ref c_NoLength)=some true
 kit_NoLength_NoLength:PySem.W.kitOne K (.ref c_NoLength) (.ref c_NoLength)=some true
 kit_NoLength_ValueError:PySem.W.kitOne K (.ref c_NoLength) (.type "ValueError")=some true
 ic_Starts:PySem.W.findIn K (.ref c_Starts) "__class__" = some (some (.builtin "object.__class__"))
 io_Starts:PySem.W.mroIn K c_Starts (.type "object")=some true
 kin_Starts_Chooser:PySem.W.kitOne K (.ref c_Starts) (.ref c_Chooser)=some true
 ic_Rounds:PySem.W.findIn K (.ref c_Rounds) "__class__" = some (some (.builtin "object.__class__"))
 io_Rounds:PySem.W.mroIn K c_Rounds (.type "object")=some true
 kin_Rounds_Chooser:PySem.W.kitOne K (.ref c_Rounds) (.ref c_Chooser)=some true
 ikg:PySem.W.specialIn K (.builtin "object.__class__") "__get__" = some (some (.builtin "getset_descriptor.__get__"))
 ikt:PySem.W.takesIn K (.builtin "object.__class__")=some true
 no_abs:mg "abs" = none
 no_all:mg "all" = none
 no_len:mg "len" = none
 no_range:mg "range" = none
 no_isinstance:mg "isinstance" = none
 no_ValueError:mg "ValueError" = none
 no_list:mg "list" = none
 mg_GREATEST_SHARE:∃ t,mg "GREATEST_SHARE" = some (.int 1000000 t)
 mg_GREATEST_LENGTH:∃ t,mg "GREATEST_LENGTH" = some (.int 1000000 t)
 mg_LETTERS:∃ t,mg "LETTERS" = some (.str (Str.ofString "abcdefghijklmnopqrstuvwxyz") t)
 mg_LONGEST_NAME:∃ t,mg "LONGEST_NAME" = some (.int 8 t)
 mg_ROAD:∃ t,mg "ROAD" = some (.str (Str.ofString "road") t)
 mg_INNER_KINDS:∃ a,mg "INNER_KINDS" = some (.ref a)/\∀ H,SqT K H a [.str (Str.ofString "starts"),.str (Str.ofString "rounds")]
 mg_LONGEST_WAY:∃ t,mg "LONGEST_WAY" = some (.int 5 t)
 mg_LEAF:∃ t,mg "LEAF" = some (.str (Str.ofString "leaf") t)
 src_divisor:Src K mg "divisor" zeh ["one", "other"]
 src_ratio:Src K mg "ratio" zgm ["top", "bottom"]
 src_under:Src K mg "under" zho ["one", "other"]
 src_greater:Src K mg "greater" zev ["one", "other"]
 src_check_share:Src K mg "check_share" zcq ["share"]
 src_check_most:Src K mg "check_most" zdc ["most"]
 src_is_name:Src K mg "is_name" zei ["text"]
 src_chooser_of:Src K mg "chooser_of" zdd ["kind", "most"]
 src__law_cell_at:Src K mg "_law_cell_at" zci ["_law_script", "_law_k"]
 src__law_stream:Src K mg "_law_stream" zcr ["_law_cell", "_law_many"]
 src__law_word:Src K mg "_law_word" zdl ["_law_xs", "_law_size"]
 src__law_name:Src K mg "_law_name" zdm ["_law_xs", "_law_known"]
 src__law_deep:Src K mg "_law_deep" zdn ["_law_world", "_law_name_here"]
 src__law_due:Src K mg "_law_due" zds ["_law_world", "_law_name_here", "_law_above", "_law_kind", "_law_share", "_law_room"]
 src__law_other:Src K mg "_law_other" zde ["_law_e", "_law_many"]
 src__law_put:Src K mg "_law_put" zdt ["_law_tree", "_law_name_here", "_law_above", "_law_kind", "_law_share", "_law_room"]
 src__law_caught:Src K mg "_law_caught" zcs ["_law_tree", "_law_name_here", "_law_above", "_law_kind", "_law_share", "_law_room"]
 src__law_below:Src K mg "_law_below" zdf ["_law_world", "_law_above"]
 src__law_stranger:Src K mg "_law_stranger" zcd ["_law_tree", "_law_name_here"]
 src__law_all_stand:Src K mg "_law_all_stand" zbt ["_law_tree", "_law_world"]
 mg_Members:mg "Members" = some (.ref c_Members)
 cl_Members:Cls K c_Members
 na_Members_shares:NoAttr K c_Members "shares"
 in_Members:SrcK K c_Members "Members.__init__" zbx ["self"] [[]]
 me_Members_check_name:SrcM K c_Members "check_name" "Members.check_name" zbc ["self", "name"] [[]]
 me_Members_put:SrcM K c_Members "put" "Members.put" zcf ["self", "name", "share"] [[]]
 me_Members_names:SrcM K c_Members "names" "Members.names" zbs ["self"] [[]]
 mg_Chooser:mg "Chooser" = some (.ref c_Chooser)
 mg_Starts:mg "Starts" = some (.ref c_Starts)
 cl_Starts:Cls K c_Starts
 na_Starts_reached:NoAttr K c_Starts "reached"
 na_Starts_tags:NoAttr K c_Starts "tags"
 na_Starts_greatest_steps:NoAttr K c_Starts "greatest_steps"
 na_Starts_most:NoAttr K c_Starts "most"
 na_Starts_members:NoAttr K c_Starts "members"
 na_Starts_chosen:NoAttr K c_Starts "chosen"
 in_Starts:SrcK K c_Starts "Starts.__init__" zcg ["self", "most"] [[]]
 me_Starts_enter:SrcM K c_Starts "enter" "Starts.enter" zby ["self", "name"] [[]]
 me_Starts_stands:SrcM K c_Starts "stands" "Starts.stands" zce ["self", "name"] [[]]
 up_Starts_up_Chooser:SrcU K c_Chooser "__init__" "Chooser.__init__" zay ["self", "most"]
 me_Starts_put:SrcM K c_Starts "put" "Chooser.put" zcn ["self", "name", "share"] [[]]
 me_Starts_names:SrcM K c_Starts "names" "Chooser.names" zbz ["self"] [[]]
 mg_Rounds:mg "Rounds" = some (.ref c_Rounds)
 cl_Rounds:Cls K c_Rounds
 na_Rounds_queue:NoAttr K c_Rounds "queue"
 na_Rounds_rests:NoAttr K c_Rounds "rests"
 na_Rounds_turn:NoAttr K c_Rounds "turn"
 na_Rounds_most:NoAttr K c_Rounds "most"
 na_Rounds_members:NoAttr K c_Rounds "members"
 na_Rounds_chosen:NoAttr K c_Rounds "chosen"
 in_Rounds:SrcK K c_Rounds "Rounds.__init__" zch ["self", "most"] [[]]
 me_Rounds_enter:SrcM K c_Rounds "enter" "Rounds.enter" zca ["self", "name"] [[]]
 me_Rounds_rest:SrcM K c_Rounds "rest" "Rounds.rest" zct ["self", "name"] [[]]
 up_Rounds_up_Chooser:SrcU K c_Chooser "__init__" "Chooser.__init__" zaz ["self", "most"]
 me_Rounds_put:SrcM K c_Rounds "put" "Chooser.put" zco ["self", "name", "share"] [[]]
 me_Rounds_names:SrcM K c_Rounds "names" "Chooser.names" zcb ["self"] [[]]
 mg_Node:mg "Node" = some (.ref c_Node)
 cl_Node:Cls K c_Node
 na_Node_above:NoAttr K c_Node "above"
 na_Node_chooser:NoAttr K c_Node "chooser"
 na_Node_room:NoAttr K c_Node "room"
 na_Node_bucket:NoAttr K c_Node "bucket"
 na_Node_queue:NoAttr K c_Node "queue"
 in_Node:SrcK K c_Node "Node.__init__" zbk ["self", "above", "chooser", "room"] [[],[V.non]]
 mg_Tree:mg "Tree" = some (.ref c_Tree)
 cl_Tree:Cls K c_Tree
 na_Tree_most:NoAttr K c_Tree "most"
 na_Tree_nodes:NoAttr K c_Tree "nodes"
 na_Tree_time:NoAttr K c_Tree "time"
 na_Tree_free:NoAttr K c_Tree "free"
 na_Tree_counted:NoAttr K c_Tree "counted"
 na_Tree_gone:NoAttr K c_Tree "gone"
 in_Tree:SrcK K c_Tree "Tree.__init__" zbl ["self", "most", "kind"] [[],[V.str (Str.ofString "starts")]]
 me_Tree_check_class:SrcM K c_Tree "check_class" "Tree.check_class" zba ["self", "name"] [[]]
 me_Tree_check_place:SrcM K c_Tree "check_place" "Tree.check_place" zbb ["self", "under", "kind"] [[]]
 me_Tree_put:SrcM K c_Tree "put" "Tree.put" zbu ["self", "name", "under", "kind", "share", "room"] [[],[V.non]]
 me_Tree_way:SrcM K c_Tree "way" "Tree.way" zdo ["self", "name"] [[]]
 me_Tree_below:SrcM K c_Tree "below" "Tree.below" zcp ["self", "name"] [[]]
 me_Tree_from_road:SrcM K c_Tree "from_road" "Tree.from_road" zbm ["self", "name"] [[]]
section
variable {P:Program} {w:World} {K:PySem.W.Frag} {mg:Str->Option Value} {base:Heap} {c_WheelError c_NoName c_Taken c_NoClass c_NoPlace c_NoShare c_NoLength c_Members c_Chooser c_Starts c_Rounds c_Node c_Tree:Addr}
local macro_rules | `(tactic| walk_at "rdc")=>`(tactic| (walk_at "rd"; (try simp only [L2.tDPop1,L2.tClsX]); walk_at "rd"))
theorem zpm (T:Txt K mg c_WheelError c_NoName c_Taken c_NoClass c_NoPlace c_NoShare c_NoLength c_Members c_Chooser c_Starts c_Rounds c_Node c_Tree):Def P w K mg base (CXX P w) 1 "divisor" ["one", "other"] (spInt2 Sw.dv):=by
 refine T.src_divisor.okN (k:=0) sc_divisor (fun vs H Q E h=>?_) (fun f cdv A outer s H vs Q E hr h=>?_)
 ·obtain ⟨a,b,rfl,_⟩:=h
  rfl
 ·obtain ⟨a,b,rfl,k⟩:=h
  refine ⟨_,(zae (zau (i:=2) sc_divisor.nd rfl (by first|left;rfl|right;rfl) (zbi zlx rfl T.no_abs boot_abs (zaa (pv 0) zag))) (zae (zau (i:=3) sc_divisor.nd rfl (by first|left;rfl|right;rfl) (zbi zlx rfl T.no_abs boot_abs (zaa (pv 1) zag))) (zae (zgz PassesOwn.never (zap op_ne (pv 3) zai (zar _)) (zae (zau (i:=4) sc_divisor.nd rfl (by first|left;rfl|right;rfl) (pe_op zcu (pv 2) (pv 3))) (zae (zau (i:=2) sc_divisor.nd rfl (by first|left;rfl|right;rfl) (pv 3)) (zaf (zau (i:=3) sc_divisor.nd rfl (by first|left;rfl|right;rfl) (pv 4)))))) (zaf (zat (pv 2)))))),?_⟩
  refine ⟨_,rfl,a,rfl,?_⟩
  refine ⟨_,rfl,b,rfl,?_⟩
  refine zol (fun σ H'=>H'=H/\∃ g s r,σ = [some (.int a),some (.int b),some (.int g),some (.int s),r]/\0<=g/\0<=s/\Sw.dv g s=Sw.dv a b)
   (fun σ _=>match σ with | [_,_,_,some (.int s),_]=>s.toNat | _=>0) ⟨rfl,_,_,none,rfl,?_,?_,Sw.dv_abs a b⟩ ?_
  ·split <;> omega
  ·split <;> omega
  ·rintro σ H' ⟨rfl,g,s,r,rfl,hg,hs,e⟩
   refine ⟨!decide (V.int s=V.int 0),fun Q hQ=>⟨_,rfl,rfl,_,rfl,hQ⟩,fun hb=>?_,fun hb=>?_⟩
   ·have hs0:s≠0:=by intro z; subst z; simp at hb
    have hsp:0<s:=by omega
    refine ⟨_,rfl,_,rfl,_,_,rfl,rfl,hsp,?_⟩
    refine ⟨_,rfl,?_⟩
    refine ⟨_,rfl,?_⟩
    refine ⟨⟨rfl,s,g % s,_,rfl,hs,Int.emod_nonneg g hs0,by rw [Sw.dv_step]; exact e⟩,?_⟩
    show (g % s).toNat<s.toNat
    have:=Int.emod_lt_of_pos g hsp
    have:=Int.emod_nonneg g hs0
    omega
   ·have hs0:s = 0:=by
     have:V.int s=V.int 0:=by simpa using hb
     exact V.int.inj this
    subst hs0
    rw [Sw.dv_zero g hg] at e
    refine ⟨_,rfl,?_⟩
    show Q (.int g) H'
    rw [e]; exact k
def spRat:Sp:=fun vs H Q _=>∃ t b z,vs = [.int t,.int b]/\z<=5000/\Sw.Sz z b/\(b≠0->∀ p,H p=none->Q (.ref p) (upd H p (.tup (fq ((t:Rat) / (b:Rat))))))/\(b = 0->False)
theorem zpn (T:Txt K mg c_WheelError c_NoName c_Taken c_NoClass c_NoPlace c_NoShare c_NoLength c_Members c_Chooser c_Starts c_Rounds c_Node c_Tree):Def P w K mg base (CXX P w) 2 "ratio" ["top", "bottom"] spRat:=by
 have D_divisor:=zpm (P:=P) (w:=w) (base:=base) T
 refine T.src_ratio.okN (k:=1) sc_ratio (fun vs H Q E h=>?_) (fun f cdv A outer s H vs Q E hr h=>?_)
 ·obtain ⟨t,b,z,rfl,_⟩:=h
  rfl
 ·obtain ⟨t,b,z,rfl,z5,sb,k,hb⟩:=h
  refine ⟨_,(zae (ps_if (zap op_eq (pv 1) zai (zar _)) (zaf zpu) zas) (zae (zau (i:=2) sc_ratio.nd rfl (by first|left;rfl|right;rfl) (zaw D_divisor (hr.mono (by decide)) rfl passN (zaa (pv 0) (zaa (pv 1) zag)))) (zae (ps_if (zap op_lt (pv 1) zai (zar _)) (zaf (zau (i:=2) sc_ratio.nd rfl (by first|left;rfl|right;rfl) (pe_un zfp (pv 2)))) zas) (zaf (zat (zoa (zaa (pe_op zlz (pv 0) (pv 2)) (zaa (pe_op zlz (pv 1) (pv 2)) zag)))))))),?_⟩
  show tSeq _ _ _ [some (.int t),some (.int b),none] H
  refine zad fun R hR=>?_
  walk_at "rd"
  refine iteN hb (hR _ _ ?_)
  have k:=k hb
  rw [<- zua hb] at k
  have hg:0<Sw.dv t b:=Sw.dv_pos hb
  have hz:Sw.Sz 5000 (Sw.dv t b):=(sb.dvd (Sw.dv_r t b) hb).mono z5
  refine zad fun R hR=>?_
  walk_at "rd"
  refine hR _ _ ?_
  refine zad fun R hR=>?_
  have fin:∀ c:Int,(c=Sw.dv t b/\¬ b<0)\/(c = -(Sw.dv t b)/\b<0)->R [some (.int t),some (.int b),some (.int c)] H:=fun c hc=>by
   refine hR _ _ ?_
   walk_at "rd"
   have c0:c≠0:=by rcases hc with ⟨e,_⟩ | ⟨e,_⟩ <;> omega
   have cz:Sw.Sz 5000 c:=by
    rcases hc with ⟨e,_⟩ | ⟨e,_⟩
    ·rw [e]; exact hz
    ·rw [e]; exact hz.neg
   have d1:c ∣ t:=by
    rcases hc with ⟨e,_⟩ | ⟨e,_⟩
    ·rw [e]; exact Sw.dv_l t b
    ·rw [e]; exact Int.neg_dvd.mpr (Sw.dv_l t b)
   have d2:c ∣ b:=by
    rcases hc with ⟨e,_⟩ | ⟨e,_⟩
    ·rw [e]; exact Sw.dv_r t b
    ·rw [e]; exact Int.neg_dvd.mpr (Sw.dv_r t b)
   have e1:t.fdiv c=Sw.rN t b:=by
    rw [Int.fdiv_eq_ediv_of_dvd d1]
    unfold Sw.rN
    rcases hc with ⟨e,q⟩ | ⟨e,q⟩
    ·rw [if_neg q,e]
    ·rw [if_pos q,e]
   have e2:b.fdiv c=Sw.rD t b:=by
    rw [Int.fdiv_eq_ediv_of_dvd d2]
    unfold Sw.rD
    rcases hc with ⟨e,q⟩ | ⟨e,q⟩
    ·rw [if_neg q,e]
    ·rw [if_pos q,e]
   rw [e1,e2]
   exact ⟨⟨c0,cz⟩,⟨c0,cz⟩,k⟩
  simp only [L2.tSeq]
  walk_at "rd"
  exact ite2 (fun c=>fin _ (.inr ⟨rfl,c⟩)) fun c=>fin _ (.inl ⟨rfl,c⟩)
abbrev Rs (c:Addr) (H:Hp) (E:XK):Prop:=∀ e,H e=none->E (.ref e) none (upd H e (excO e c none false))
theorem rs_of {c:Addr} {H:Hp} {E:XK} (kx:Rs c H E) (xc:XC K c):∀ e,H e=none->∃ x x1,upd H e (excO e c none true) e=some (excO e x x1 true)/\XC K x/\E (.ref e) x1 (upd (upd H e (excO e c none true)) e (excO e x x1 false)):=fun e he=>⟨c,none,zab,xc,by rw [zec]; exact kx e he⟩
def spChk (cS:Addr):Sp:=fun vs H Q E=>∃ s,vs = [.int s]/\(1<=s/\s<=1000000->Q .non H)/\(¬ (1<=s/\s<=1000000)->Rs cS H E)
theorem zga (T:Txt K mg c_WheelError c_NoName c_Taken c_NoClass c_NoPlace c_NoShare c_NoLength c_Members c_Chooser c_Starts c_Rounds c_Node c_Tree):Def P w K mg base (CXX P w) 1 "check_share" ["share"] (spChk c_NoShare):=by
 refine T.src_check_share.okX (k:=0) zhz (fun vs H Q E h=>?_) (fun f cdv A outer s H vs Q E hr h=>?_)
 ·obtain ⟨s,rfl,_⟩:=h
  rfl
 ·obtain ⟨s,rfl,k,kx⟩:=h
  refine ⟨_,(zaf (ps_if (zhd (zlw op_le op_le zai (pv 0) (zha rfl T.mg_GREATEST_SHARE))) (zaf (zcz K rfl rfl zeo (zep T.ex_NoShare T.kp_NoShare rfl T.mg_NoShare (zaa zaq zag)))) zas)),?_⟩
  show tIfS _ _ _ _ [some (.int s)] H
  walk_at "rd"
  refine ite2 (fun c1=>ite2 (fun c2=>k ⟨c1,c2⟩) fun c2=>?_) fun c1=>?_
  ·exact rs_of (kx fun z=>c2 z.2) T.xc_NoShare
  ·exact rs_of (kx fun z=>c1 z.1) T.xc_NoShare
def spMI (C:Addr):Sp:=fun vs H Q _=>∃ x dx,vs = [.ref x]/\H x=some (.ins C dx [])/\∀ psh H',But x H H'->H psh=none->Mb C H' x psh []->Q .non H'
theorem zks (T:Txt K mg c_WheelError c_NoName c_Taken c_NoClass c_NoPlace c_NoShare c_NoLength c_Members c_Chooser c_Starts c_Rounds c_Node c_Tree):MkD P w K mg base (CXX P w) 1 c_Members ["self"] [[]] (spMI c_Members):=by
 refine T.in_Members.okN (k:=0) zhq (fun vs H Q E h=>?_) (fun f cdv A outer s H vs Q E hr h=>?_)
 ·obtain ⟨x,dx,rfl,_⟩:=h
  rfl
 ·obtain ⟨x,dx,rfl,hx,k⟩:=h
  refine ⟨_,(zaf (zcj (pv 0) zfu rfl)),?_⟩
  show (_:TS) _ [some (.ref x)] H
  walk_at "rd"
  intro psh hpsh
  have nx:psh≠x:=fun z=>by rw [z,hx] at hpsh; cases hpsh
  have sn:=zak (o:=.dK []) hpsh
  refine zck (sn _ _ hx) T.cl_Members T.na_Members_shares (by simp) ?_
  refine k psh _ (fun b o n e=>?_) hpsh ⟨⟨dx,putF "shares" (.ref psh) [],zab,?_,fun m hm=>?_,?_⟩,?_⟩
  ·rw [zah n]; exact sn _ _ e
  ·rw [zdj,if_pos rfl]
  ·rw [zdj,if_neg hm]; rfl
  ·have:=zal (fs:=[]) (f := "shares") (v:=.ref psh)
   simp only [List.length_nil] at this
   omega
  ·rw [zah nx]; exact zab
def zuf (cT cS C:Addr):Sp:=fun vs H Q E=>∃ p psh nm x s,vs = [.ref p,.str x,.int s]/\Mb C H p psh nm/\nm.length<900/\(shOf nm x≠none->Rs cT H E)/\(shOf nm x=none->¬ (1<=s/\s<=1000000)->Rs cS H E)/\(shOf nm x=none->1<=s/\s<=1000000->Q .non (upd H psh (.dK (kvsOf (nm++[(x,s)])))))
theorem zgb (T:Txt K mg c_WheelError c_NoName c_Taken c_NoClass c_NoPlace c_NoShare c_NoLength c_Members c_Chooser c_Starts c_Rounds c_Node c_Tree):MethD P w K mg base (CXX P w) 2 c_Members "put" ["self", "name", "share"] [[]] (zuf c_Taken c_NoShare c_Members):=by
 have D_check_share:=zga (P:=P) (w:=w) (base:=base) T
 refine T.me_Members_put.okX (k:=1) zia (fun vs H Q E h=>?_) (fun f cdv A outer s H vs Q E hr h=>?_)
 ·obtain ⟨p,psh,nm,x,s,rfl,_⟩:=h
  rfl
 ·obtain ⟨p,psh,nm,x,s,rfl,M,hn,kt,ks,k⟩:=h
  refine ⟨_,(zae (ps_if (zgn (zmk (hu_of hr) (pv 1) (zcc (pv 0) rfl))) (zaf (zcz K rfl rfl zeo (zep T.ex_Taken T.kp_Taken rfl T.mg_Taken (zaa zaq zag)))) zas) (zae (zbj (zaw D_check_share (hr.mono (by decide)) rfl passF (zaa (pv 2) zag))) (zaf (zgh (hu_of hr) (zcc (pv 0) rfl) (pv 1) (pv 2) rfl)))),?_⟩
  show tSeq _ _ _ [some (.ref p),some (.str x),some (.int s)] H
  obtain ⟨dx,fs,hp,hf,hno,hlen⟩:=M.ex
  refine zad fun R hR=>?_
  walk_at "rd"
  refine zbh hp T.cl_Members T.na_Members_shares hf ?_
  walk_at "rd"
  refine ⟨_,DGet.k (k:=Sum.inr x) M.hs,?_⟩
  rw [zpb]
  cases hx:shOf nm x with
  | some v=>exact rs_of (kt (by rw [hx]; simp)) T.xc_Taken
  | none =>
   refine hR _ _ ?_
   refine zad fun R hR=>?_
   walk_at "rd"
   refine ⟨s,rfl,fun c=>hR _ _ ?_,fun c=>ks hx c⟩
   walk_at "rd"
   refine zbh hp T.cl_Members T.na_Members_shares hf ?_
   walk_at "rd"
   refine ⟨_,DPut.k (k:=Sum.inr x) M.hs (line_lt (by rw [zkm]; omega)),?_⟩
   rw [zmm hx]
   exact k hx c
def nmV (nm:Nm):List V:=nm.map fun x=>.str x.1
def zqt (C:Addr):Sp:=fun vs H Q _=>∃ p psh nm,vs = [.ref p]/\Mb C H p psh nm/\∀ l,H l=none->Q (.ref l) (upd H l (.lst (nmV nm)))
theorem zew (T:Txt K mg c_WheelError c_NoName c_Taken c_NoClass c_NoPlace c_NoShare c_NoLength c_Members c_Chooser c_Starts c_Rounds c_Node c_Tree):MethD P w K mg base (CXX P w) 1 c_Members "names" ["self"] [[]] (zqt c_Members):=by
 refine T.me_Members_names.okN (k:=0) zgw (fun vs H Q E h=>?_) (fun f cdv A outer s H vs Q E hr h=>?_)
 ·obtain ⟨p,psh,nm,rfl,_⟩:=h
  rfl
 ·obtain ⟨p,psh,nm,rfl,M,k⟩:=h
  refine ⟨_,(zaf (zat (zjw (ziq rfl) rfl T.no_list boot_list (zaa (zcc (pv 0) rfl) zag)))),?_⟩
  show tRet _ _ [some (.ref p)] H
  obtain ⟨dx,fs,hp,hf,hno,hlen⟩:=M.ex
  walk_at "rd"
  refine zbh hp T.cl_Members T.na_Members_shares hf ?_
  refine ⟨psh,_,rfl,M.hs,fun l hl=>?_⟩
  have e:(kvsOf nm).map (fun kv=>kV kv.1)=nmV nm:=by unfold L2.kvsOf nmV; rw [List.map_map]; rfl
  rw [e]
  exact k l hl
def spUp (C Cm:Addr):Sp:=fun vs H Q _=>∃ x dx most,vs = [.ref x,.int most]/\H x=some (.ins C dx [])/\∀ pm psh H',But x H H'->H pm=none->H psh=none->pm≠x->H' x=some (.ins C dx (putF "chosen" .non (putF "members" (.ref pm) (putF "most" (.int most) []))))->Mb Cm H' pm psh []->Q .non H'
theorem zfm (T:Txt K mg c_WheelError c_NoName c_Taken c_NoClass c_NoPlace c_NoShare c_NoLength c_Members c_Chooser c_Starts c_Rounds c_Node c_Tree):UpD P w K mg base (CXX P w) 3 c_Chooser "__init__" ["self", "most"] (spUp c_Starts c_Members):=by
 have K_Members:=zks (P:=P) (w:=w) (base:=base) T
 refine T.up_Starts_up_Chooser.okN (k:=2) zfc (fun vs H Q E h=>?_) (fun f cdv A outer s H vs Q E hr h=>?_)
 ·obtain ⟨x,dx,most,rfl,_⟩:=h
  rfl
 ·obtain ⟨x,dx,most,rfl,hx,k⟩:=h
  refine ⟨_,(zae (zcj (pv 0) (pv 1) rfl) (zae (zcj (pv 0) (zkg (dvs:=[]) K_Members (by simp) (hr.mono (by decide)) passN rfl T.mg_Members) rfl) (zaf (zcj (pv 0) zdy rfl)))),?_⟩
  show tSeq _ _ _ [some (.ref x),some (.int most)] H
  have l1:=zal (fs:=[]) (f := "most") (v:=.int most)
  simp only [List.length_nil] at l1
  refine zad fun R hR=>?_
  walk_at "rd"
  refine zck hx T.cl_Starts T.na_Starts_most (by simp) (hR _ _ ?_)
  refine zad fun R hR=>?_
  walk_at "rd"
  intro pm dm hpm hdm _
  have nx:pm≠x:=fun z=>by rw [z,zab] at hpm; cases hpm
  have npm:H pm=none:=by rw [zah nx] at hpm; exact hpm
  refine ⟨pm,dm,rfl,zab,fun psh H1 bt hpsh M=>⟨rfl,?_⟩⟩
  have s1:=bt.same (zcy hpm hdm) hpm
  have hx1:=s1 _ _ zab
  have l2:=zal (fs:=putF "most" (.int most) []) (f := "members") (v:=.ref pm)
  have fpsh:upd H x (.ins c_Starts dx (putF "most" (.int most) [])) psh=none:=(zcy hpm hdm).free hpsh
  have npx:psh≠x:=fun z=>by rw [z,zab] at fpsh; cases fpsh
  have npsh:H psh=none:=by rw [zah npx] at fpsh; exact fpsh
  refine zck hx1 T.cl_Starts T.na_Starts_members (by omega) (hR _ _ ?_)
  walk_at "rd"
  refine zck zab T.cl_Starts T.na_Starts_chosen (by omega) ?_
  rw [zec]
  refine k pm psh _ (fun b o n e=>?_) npm npsh nx zab ?_
  ·rw [zah n]
   exact s1 _ _ (by rw [zah n]; exact e)
  ·obtain ⟨d2,f2,g1,g2⟩:=M.ex
   exact ⟨⟨d2,f2,by rw [zah nx]; exact g1,g2⟩,by rw [zah npx]; exact M.hs⟩
def spSI (C Cm:Addr):Sp:=fun vs H Q _=>∃ x dx most,vs = [.ref x,.int most]/\H x=some (.ins C dx [])/\∀ (a:At5) H',a.p=x->But x H H'->H a.pm=none->H a.ps=none->H a.pt=none->H a.pg=none->Sx C Cm H' a most [] (fun _=>none) (fun _=>none) 0 .non 0->Q .non H'
theorem zqu (T:Txt K mg c_WheelError c_NoName c_Taken c_NoClass c_NoPlace c_NoShare c_NoLength c_Members c_Chooser c_Starts c_Rounds c_Node c_Tree):MkD P w K mg base (CXX P w) 4 c_Starts ["self", "most"] [[]] (spSI c_Starts c_Members):=by
 have U_Starts_up_Chooser:=zfm (P:=P) (w:=w) (base:=base) T
 have D_ratio:=zpn (P:=P) (w:=w) (base:=base) T
 refine T.in_Starts.okN (k:=3) zib (fun vs H Q E h=>?_) (fun f cdv A outer s H vs Q E hr h=>?_)
 ·obtain ⟨x,dx,most,rfl,_⟩:=h
  rfl
 ·obtain ⟨x,dx,most,rfl,hx,k⟩:=h
  refine ⟨_,(zae (zbj (zpa U_Starts_up_Chooser (hr.mono (by decide)) passN rfl T.mg_Chooser (zaa (pv 0) (zaa (pv 1) zag)))) (zae (zcj (pv 0) (zaw D_ratio (hr.mono (by decide)) rfl passN (zaa zai (zaa zai zag))) rfl) (zae (zcj (pv 0) zfu rfl) (zaf (zcj (pv 0) zfu rfl))))),?_⟩
  show tSeq _ _ _ [some (.ref x),some (.int most)] H
  refine zad fun R hR=>?_
  walk_at "rdc"
  refine ⟨x,dx,most,rfl,hx,fun pm psh H1 bt npm npsh nx hx1 M=>hR _ _ ?_⟩
  have l1:=zal (fs:=[]) (f := "most") (v:=.int most)
  have l2:=zal (fs:=putF "most" (.int most) []) (f := "members") (v:=.ref pm)
  have l3:=zal (fs:=putF "members" (.ref pm) (putF "most" (.int most) [])) (f := "chosen") (v:=.non)
  simp only [List.length_nil] at l1
  refine zad fun R hR=>?_
  walk_at "rd"
  refine ⟨0,1,1,rfl,by decide,Sw.Sz.one _,fun _ pr hpr=>?_,fun z=>absurd z (by decide)⟩
  have e0:((0:Int):Rat) / ((1:Int):Rat) = 0:=by
   have z0:((0:Int):Rat) = 0:=rfl
   rw [z0]; grind
  rw [e0]
  have s1:=zak (o:=.tup (fq 0)) hpr
  have hprt:upd H1 pr (.tup (fq 0)) pr=some (.tup (fq 0)):=zab
  have hx1:=s1 _ _ hx1
  have M:=M.same s1
  have bt:=bt.trans s1.but
  generalize upd H1 pr (.tup (fq 0))=H2 at s1 hprt hx1 M bt ⊢
  clear s1 hpr
  walk_at "rd"
  refine zck hx1 T.cl_Starts T.na_Starts_reached (by omega) (hR _ _ ?_)
  generalize hfs:putF "reached" (.ref pr) (putF "chosen" .non (putF "members" (.ref pm) (putF "most" (.int most) [])))=fs1
  have l4:fs1.length<=4:=by
   have:=zal (fs:=putF "chosen" .non (putF "members" (.ref pm) (putF "most" (.int most) []))) (f := "reached") (v:=.ref pr)
   rw [hfs] at this
   omega
  have hx2:upd H2 x (.ins c_Starts dx fs1) x=some (.ins c_Starts dx fs1):=zab
  have bt:But x H (upd H2 x (.ins c_Starts dx fs1)):=bt.trans zgg
  have npx:psh≠x:=fun z=>by rw [z,hx] at npsh; cases npsh
  have nrx:pr≠x:=ne_of hprt hx1 (by intro z; cases z)
  have hprt:upd H2 x (.ins c_Starts dx fs1) pr=some (.tup (fq 0)):=by rw [zah nrx]; exact hprt
  have M:Mb c_Members (upd H2 x (.ins c_Starts dx fs1)) pm psh []:=by
   obtain ⟨d2,f2,g1,g2⟩:=M.ex
   exact ⟨⟨d2,f2,by rw [zah nx]; exact g1,g2⟩,by rw [zah npx]; exact M.hs⟩
  generalize upd H2 x (.ins c_Starts dx fs1)=H3 at hx2 bt hprt M ⊢
  refine zad fun R hR=>?_
  walk_at "rd"
  intro pt hpt
  have ntx:pt≠x:=fun z=>by rw [z,hx2] at hpt; cases hpt
  have s3:=zak (o:=.dK []) hpt
  have hptd:upd H3 pt (.dK []) pt=some (.dK []):=zab
  have nts:=zan M.hs hpt
  refine zck (s3 _ _ hx2) T.cl_Starts T.na_Starts_tags (by omega) (hR _ _ ?_)
  have free:∀ {H':Hp} {b:Addr},But x H H'->b≠x->H' b=none->H b=none:=fun {H' b} bt n e=>by
   cases q:H b with
   | none=>rfl
   | some o =>
    have:=bt _ _ n q
    rw [e] at this
    cases this
  have npt:=free bt ntx hpt
  have l5:=zal (fs:=fs1) (f := "tags") (v:=.ref pt)
  have keepx:∀ {H':Hp} {fs:List (Str×V)} {b:Addr} {o:HO},b≠x->H' b=some o->upd H' x (.ins c_Starts dx fs) b=some o:=fun n e=>by rw [zah n]; exact e
  have bt:But x H (upd (upd H3 pt (.dK [])) x (.ins c_Starts dx (putF "tags" (.ref pt) fs1))):=(bt.trans s3.but).trans zgg
  have hprt:=keepx (fs:=putF "tags" (.ref pt) fs1) nrx (s3 _ _ hprt)
  have hptd:=keepx (fs:=putF "tags" (.ref pt) fs1) ntx hptd
  have M:Mb c_Members (upd (upd H3 pt (.dK [])) x (.ins c_Starts dx (putF "tags" (.ref pt) fs1))) pm psh []:=by
   obtain ⟨d2,f2,g1,g2⟩:=(M.same s3).ex
   exact ⟨⟨d2,f2,keepx nx g1,g2⟩,keepx npx (s3 _ _ M.hs)⟩
  have hx4:upd (upd H3 pt (.dK [])) x (.ins c_Starts dx (putF "tags" (.ref pt) fs1)) x=some (.ins c_Starts dx (putF "tags" (.ref pt) fs1)):=zab
  generalize upd (upd H3 pt (.dK [])) x (.ins c_Starts dx (putF "tags" (.ref pt) fs1))=H4 at bt hprt hptd M hx4 ⊢
  clear s3 hpt hx2
  walk_at "rd"
  intro pg hpg
  have ngx:pg≠x:=fun z=>by rw [z,hx4] at hpg; cases hpg
  have s5:=zak (o:=.dK []) hpg
  have ngt:=zan hptd hpg
  have ngs:=zan M.hs hpg
  refine zck (s5 _ _ hx4) T.cl_Starts T.na_Starts_greatest_steps (by omega) ?_
  have npg:=free bt ngx hpg
  refine k ⟨x,pm,psh,pt,pg⟩ _ rfl ((bt.trans s5.but).trans zgg) npm npsh npt npg ⟨⟨dx,_,pr,zab,?_,keepx nrx (s5 _ _ hprt)⟩,?_,⟨[],keepx ntx (s5 _ _ hptd),fun y=>.inl ⟨rfl,rfl⟩,Nat.le_refl _⟩,⟨[],keepx ngx zab,fun y=>.inl ⟨rfl,rfl⟩,Nat.le_refl _⟩,Nat.le_refl _,ngt,nts.symm,ngs.symm,nx.symm⟩
  ·rw [<- hfs]
   exact FS.mk0 _ _ _ _ _ _
  ·obtain ⟨d2,f2,g1,g2⟩:=(M.same s5).ex
   exact ⟨⟨d2,f2,keepx nx g1,g2⟩,keepx npx (s5 _ _ M.hs)⟩
def zsu (C Cm:Addr):Sp:=fun vs H Q _=>∃ a most nm tg gs ck ch N,vs = [.ref a.p]/\Sx C Cm H a most nm tg gs ck ch N/\∀ l,H l=none->Q (.ref l) (upd H l (.lst (nmV nm)))
theorem zid (T:Txt K mg c_WheelError c_NoName c_Taken c_NoClass c_NoPlace c_NoShare c_NoLength c_Members c_Chooser c_Starts c_Rounds c_Node c_Tree):MethD P w K mg base (CXX P w) 2 c_Starts "names" ["self"] [[]] (zsu c_Starts c_Members):=by
 have M_Members_names:=zew (P:=P) (w:=w) (base:=base) T
 refine T.me_Starts_names.okN (k:=1) zhs (fun vs H Q E h=>?_) (fun f cdv A outer s H vs Q E hr h=>?_)
 ·obtain ⟨a,most,nm,tg,gs,ck,ch,N,rfl,_⟩:=h
  rfl
 ·obtain ⟨a,most,nm,tg,gs,ck,ch,N,rfl,S,k⟩:=h
  refine ⟨_,(zaf (zat (zfs (dvs:=[]) M_Members_names (by simp) T.cl_Members (hr.mono (by decide)) passN (zcc (pv 0) rfl)))),?_⟩
  show tRet _ _ [some (.ref a.p)] H
  obtain ⟨dx,fs,pr,hp,ft,hr'⟩:=S.ex
  obtain ⟨dm,fm,hpm,hfm,hno,hlen⟩:=S.mb.ex
  walk_at "rd"
  refine zbh hp T.cl_Starts T.na_Starts_members ft.me ?_
  exact zbp hpm (hno _ (by decide +kernel)) ⟨a.pm,a.ps,nm,rfl,S.mb,k⟩
def zsv (C Cm:Addr):Sp:=fun vs H Q _=>∃ a most nm tg gs ck ch N x,vs = [.ref a.p,.str x]/\Sx C Cm H a most nm tg gs ck ch N/\N<900/\∀ H',Own a H H'->Sx C Cm H' a most nm (setS tg x 0) (setS gs x 0) ck ch (N+2)->Q .non H'
theorem zie (T:Txt K mg c_WheelError c_NoName c_Taken c_NoClass c_NoPlace c_NoShare c_NoLength c_Members c_Chooser c_Starts c_Rounds c_Node c_Tree):MethD P w K mg base (CXX P w) 3 c_Starts "enter" ["self", "name"] [[]] (zsv c_Starts c_Members):=by
 have D_ratio:=zpn (P:=P) (w:=w) (base:=base) T
 refine T.me_Starts_enter.okN (k:=2) zhr (fun vs H Q E h=>?_) (fun f cdv A outer s H vs Q E hr h=>?_)
 ·obtain ⟨a,most,nm,tg,gs,ck,ch,N,x,rfl,_⟩:=h
  rfl
 ·obtain ⟨a,most,nm,tg,gs,ck,ch,N,x,rfl,S,hN,k⟩:=h
  refine ⟨_,(zae (zgh (hu_of hr) (zcc (pv 0) rfl) (pv 1) (zaw D_ratio (hr.mono (by decide)) rfl passN (zaa zai (zaa zai zag))) rfl) (zaf (zgh (hu_of hr) (zcc (pv 0) rfl) (pv 1) (zaw D_ratio (hr.mono (by decide)) rfl passN (zaa zai (zaa zai zag))) rfl))),?_⟩
  show tSeq _ _ _ [some (.ref a.p),some (.str x)] H
  refine zad fun R hR=>?_
  walk_at "rd"
  refine ⟨0,1,1,rfl,by decide,Sw.Sz.one _,fun _ q hq=>?_,fun z=>absurd z (by decide)⟩
  rw [rat01]
  have sn:=zak (o:=.tup (fq 0)) hq
  have hqt:upd H q (.tup (fq 0)) q=some (.tup (fq 0)):=zab
  have S:=S.same sn
  generalize upd H q (.tup (fq 0))=H1 at sn hqt S ⊢
  obtain ⟨dx,fs,pr,hp,ft,hr'⟩:=S.ex
  obtain ⟨kvs,hpt,hv,hkl⟩:=S.dt.ex
  walk_at "rd"
  refine zbh hp T.cl_Starts T.na_Starts_tags ft.ta ?_
  walk_at "rd"
  refine ⟨_,DPut.k (k:=Sum.inr x) hpt (line_lt (by omega)),hR _ _ ?_⟩
  have lput:=zdx kvs (Sum.inr x:Key) (.ref q)
  have S:=S.set_t (Nat.le_succ N) (RatD.put (x:=x) (r:=0) hpt hv (by omega) hqt)
  have ow:Own a H _:=sn.own.trans (own_t (a:=a) (H:=H1) (o:=.dK (putK kvs (Sum.inr x) (.ref q))))
  generalize upd H1 a.pt (.dK (putK kvs (Sum.inr x) (.ref q)))=H2 at S ow ⊢
  clear sn hqt hp ft hr' hpt hv hkl lput hq
  walk_at "rd"
  refine ⟨0,1,1,rfl,by decide,Sw.Sz.one _,fun _ q hq=>?_,fun z=>absurd z (by decide)⟩
  rw [rat01]
  have sn:=zak (o:=.tup (fq 0)) hq
  have hqt:upd H2 q (.tup (fq 0)) q=some (.tup (fq 0)):=zab
  have S:=S.same sn
  generalize upd H2 q (.tup (fq 0))=H3 at sn hqt S ⊢
  obtain ⟨dx,fs,pr,hp,ft,hr'⟩:=S.ex
  obtain ⟨kvs,hpg,hv,hkl⟩:=S.dg.ex
  walk_at "rd"
  refine zbh hp T.cl_Starts T.na_Starts_greatest_steps ft.gr ?_
  walk_at "rd"
  refine ⟨_,DPut.k (k:=Sum.inr x) hpg (line_lt (by omega)),?_⟩
  have lput:=zdx kvs (Sum.inr x:Key) (.ref q)
  exact k _ ((ow.trans sn.own).trans own_g) (S.set_g (Nat.le_succ (N+1)) (RatD.put (x:=x) (r:=0) hpg hv (by omega) hqt))
def spPut (cT cS C Cm:Addr):Sp:=fun vs H Q E=>∃ a most nm tg gs ck ch N x s,vs = [.ref a.p,.str x,.int s]/\Sx C Cm H a most nm tg gs ck ch N/\N<890/\(shOf nm x≠none->Rs cT H E)/\(shOf nm x=none->¬ (1<=s/\s<=1000000)->Rs cS H E)/\(shOf nm x=none->1<=s/\s<=1000000->∀ H',Own a H H'->Sx C Cm H' a most (nm++[(x,s)]) (setS tg x 0) (setS gs x 0) ck ch (N+3)->Q .non H')
theorem zkt (T:Txt K mg c_WheelError c_NoName c_Taken c_NoClass c_NoPlace c_NoShare c_NoLength c_Members c_Chooser c_Starts c_Rounds c_Node c_Tree):MethD P w K mg base (CXX P w) 4 c_Starts "put" ["self", "name", "share"] [[]] (spPut c_Taken c_NoShare c_Starts c_Members):=by
 have M_Members_put:=zgb (P:=P) (w:=w) (base:=base) T
 have M_Starts_enter:=zie (P:=P) (w:=w) (base:=base) T
 refine T.me_Starts_put.okX (k:=3) zjk (fun vs H Q E h=>?_) (fun f cdv A outer s H vs Q E hr h=>?_)
 ·obtain ⟨a,most,nm,tg,gs,ck,ch,N,x,s,rfl,_⟩:=h
  rfl
 ·obtain ⟨a,most,nm,tg,gs,ck,ch,N,x,s,rfl,S,hN,kt,ks,k⟩:=h
  refine ⟨_,(zae (zbj (zbf (dvs:=[]) M_Members_put (by simp) T.cl_Members (hr.mono (by decide)) passF (zcc (pv 0) rfl) (zaa (pv 1) (zaa (pv 2) zag)))) (zaf (zbj (zbf (dvs:=[]) M_Starts_enter (by simp) T.cl_Starts (hr.mono (by decide)) passF (pv 0) (zaa (pv 1) zag))))),?_⟩
  show tSeq _ _ _ [some (.ref a.p),some (.str x),some (.int s)] H
  obtain ⟨dx,fs,pr,hp,ft,hr'⟩:=S.ex
  obtain ⟨dm,fm,hpm,hfm,hno,hlen⟩:=S.mb.ex
  have nl:=S.nl
  refine zad fun R hR=>?_
  walk_at "rd"
  refine zbh hp T.cl_Starts T.na_Starts_members ft.me ?_
  refine zbp hpm (hno _ (by decide +kernel)) ⟨a.pm,a.ps,nm,x,s,rfl,S.mb,by omega,kt,ks,fun hx hs=>hR _ _ ?_⟩
  have S:=S.set_s (nm':=nm++[(x,s)]) (Nat.le_succ N) (by simp; omega)
  have ow:Own a H (upd H a.ps (.dK (kvsOf (nm++[(x,s)])))):=own_s
  generalize upd H a.ps (.dK (kvsOf (nm++[(x,s)])))=H1 at S ow ⊢
  obtain ⟨dx,fs,pr,hp,ft,hr'⟩:=S.ex
  walk_at "rd"
  exact zbp hp (ft.no _ (by decide +kernel) (by decide +kernel) (by decide +kernel) (by decide +kernel) (by decide +kernel) (by decide +kernel)) ⟨a,most,_,tg,gs,ck,ch,N+1,x,rfl,S,by omega,fun H' o' S'=>k hx hs H' (ow.trans o') S'⟩
def spUpR (C Cm:Addr):Sp:=fun vs H Q _=>∃ x dx most,vs = [.ref x,.int most]/\H x=some (.ins C dx [])/\∀ pm psh H',But x H H'->H pm=none->H psh=none->pm≠x->H' x=some (.ins C dx (putF "chosen" .non (putF "members" (.ref pm) (putF "most" (.int most) []))))->Mb Cm H' pm psh []->Q .non H'
theorem zfn (T:Txt K mg c_WheelError c_NoName c_Taken c_NoClass c_NoPlace c_NoShare c_NoLength c_Members c_Chooser c_Starts c_Rounds c_Node c_Tree):UpD P w K mg base (CXX P w) 3 c_Chooser "__init__" ["self", "most"] (spUpR c_Rounds c_Members):=by
 have K_Members:=zks (P:=P) (w:=w) (base:=base) T
 refine T.up_Rounds_up_Chooser.okN (k:=2) zfd (fun vs H Q E h=>?_) (fun f cdv A outer s H vs Q E hr h=>?_)
 ·obtain ⟨x,dx,most,rfl,_⟩:=h
  rfl
 ·obtain ⟨x,dx,most,rfl,hx,k⟩:=h
  refine ⟨_,(zae (zcj (pv 0) (pv 1) rfl) (zae (zcj (pv 0) (zkg (dvs:=[]) K_Members (by simp) (hr.mono (by decide)) passN rfl T.mg_Members) rfl) (zaf (zcj (pv 0) zdy rfl)))),?_⟩
  show tSeq _ _ _ [some (.ref x),some (.int most)] H
  have l1:=zal (fs:=[]) (f := "most") (v:=.int most)
  simp only [List.length_nil] at l1
  refine zad fun R hR=>?_
  walk_at "rd"
  refine zck hx T.cl_Rounds T.na_Rounds_most (by simp) (hR _ _ ?_)
  refine zad fun R hR=>?_
  walk_at "rd"
  intro pm dm hpm hdm _
  have nx:pm≠x:=fun z=>by rw [z,zab] at hpm; cases hpm
  have npm:H pm=none:=by rw [zah nx] at hpm; exact hpm
  refine ⟨pm,dm,rfl,zab,fun psh H1 bt hpsh M=>⟨rfl,?_⟩⟩
  have s1:=bt.same (zcy hpm hdm) hpm
  have hx1:=s1 _ _ zab
  have l2:=zal (fs:=putF "most" (.int most) []) (f := "members") (v:=.ref pm)
  have fpsh:upd H x (.ins c_Rounds dx (putF "most" (.int most) [])) psh=none:=(zcy hpm hdm).free hpsh
  have npx:psh≠x:=fun z=>by rw [z,zab] at fpsh; cases fpsh
  have npsh:H psh=none:=by rw [zah npx] at fpsh; exact fpsh
  refine zck hx1 T.cl_Rounds T.na_Rounds_members (by omega) (hR _ _ ?_)
  walk_at "rd"
  refine zck zab T.cl_Rounds T.na_Rounds_chosen (by omega) ?_
  rw [zec]
  refine k pm psh _ (fun b o n e=>?_) npm npsh nx zab ?_
  ·rw [zah n]
   exact s1 _ _ (by rw [zah n]; exact e)
  ·obtain ⟨d2,f2,g1,g2⟩:=M.ex
   exact ⟨⟨d2,f2,by rw [zah nx]; exact g1,g2⟩,by rw [zah npx]; exact M.hs⟩
def zsw (C Cm:Addr):Sp:=fun vs H Q _=>∃ x dx most,vs = [.ref x,.int most]/\H x=some (.ins C dx [])/\∀ (a:At5) H',a.p=x->But x H H'->H a.pm=none->H a.ps=none->H a.pt=none->H a.pg=none->Rx C Cm H' a most [] [] [] none .non->Q .non H'
theorem zqv (T:Txt K mg c_WheelError c_NoName c_Taken c_NoClass c_NoPlace c_NoShare c_NoLength c_Members c_Chooser c_Starts c_Rounds c_Node c_Tree):MkD P w K mg base (CXX P w) 4 c_Rounds ["self", "most"] [[]] (zsw c_Rounds c_Members):=by
 have U_Rounds_up_Chooser:=zfn (P:=P) (w:=w) (base:=base) T
 refine T.in_Rounds.okN (k:=3) zic (fun vs H Q E h=>?_) (fun f cdv A outer s H vs Q E hr h=>?_)
 ·obtain ⟨x,dx,most,rfl,_⟩:=h
  rfl
 ·obtain ⟨x,dx,most,rfl,hx,k⟩:=h
  refine ⟨_,(zae (zbj (zpa U_Rounds_up_Chooser (hr.mono (by decide)) passN rfl T.mg_Chooser (zaa (pv 0) (zaa (pv 1) zag)))) (zae (zcj (pv 0) (zdg zag) rfl) (zae (zcj (pv 0) zfu rfl) (zaf (zcj (pv 0) zdy rfl))))),?_⟩
  show tSeq _ _ _ [some (.ref x),some (.int most)] H
  refine zad fun R hR=>?_
  walk_at "rdc"
  refine ⟨x,dx,most,rfl,hx,fun pm psh H1 bt npm npsh nx hx1 M=>hR _ _ ?_⟩
  have l1:=zal (fs:=[]) (f := "most") (v:=.int most)
  have l2:=zal (fs:=putF "most" (.int most) []) (f := "members") (v:=.ref pm)
  have l3:=zal (fs:=putF "members" (.ref pm) (putF "most" (.int most) [])) (f := "chosen") (v:=.non)
  simp only [List.length_nil] at l1
  have npx:psh≠x:=fun z=>by rw [z,hx] at npsh; cases npsh
  have free:∀ {H':Hp} {b:Addr},But x H H'->b≠x->H' b=none->H b=none:=fun {H' b} bt n e=>by
   cases q:H b with
   | none=>rfl
   | some o =>
    have:=bt _ _ n q
    rw [e] at this
    cases this
  have keepx:∀ {H':Hp} {fs:List (Str×V)} {b:Addr} {o:HO},b≠x->H' b=some o->upd H' x (.ins c_Rounds dx fs) b=some o:=fun n e=>by rw [zah n]; exact e
  generalize hfs0:putF "chosen" .non (putF "members" (.ref pm) (putF "most" (.int most) []))=fs0 at hx1 l3
  refine zad fun R hR=>?_
  walk_at "rd"
  intro pt hpt
  have ntx:pt≠x:=fun z=>by rw [z,hx1] at hpt; cases hpt
  have s3:=zak (o:=.lst []) hpt
  have hptd:upd H1 pt (.lst []) pt=some (.lst []):=zab
  refine zck (s3 _ _ hx1) T.cl_Rounds T.na_Rounds_queue (by omega) (hR _ _ ?_)
  have npt:=free bt ntx hpt
  have l4:=zal (fs:=fs0) (f := "queue") (v:=.ref pt)
  have bt:But x H (upd (upd H1 pt (.lst [])) x (.ins c_Rounds dx (putF "queue" (.ref pt) fs0))):=(bt.trans s3.but).trans zgg
  have hptd:=keepx (fs:=putF "queue" (.ref pt) fs0) ntx hptd
  have M:Mb c_Members (upd (upd H1 pt (.lst [])) x (.ins c_Rounds dx (putF "queue" (.ref pt) fs0))) pm psh []:=by
   obtain ⟨d2,f2,g1,g2⟩:=(M.same s3).ex
   exact ⟨⟨d2,f2,keepx nx g1,g2⟩,keepx npx (s3 _ _ M.hs)⟩
  have hx4:upd (upd H1 pt (.lst [])) x (.ins c_Rounds dx (putF "queue" (.ref pt) fs0)) x=some (.ins c_Rounds dx (putF "queue" (.ref pt) fs0)):=zab
  generalize upd (upd H1 pt (.lst [])) x (.ins c_Rounds dx (putF "queue" (.ref pt) fs0))=H4 at bt hptd M hx4 ⊢
  clear s3 hpt hx1
  refine zad fun R hR=>?_
  walk_at "rd"
  intro pg hpg
  have ngx:pg≠x:=fun z=>by rw [z,hx4] at hpg; cases hpg
  have s5:=zak (o:=.dK []) hpg
  have ngs:=zan M.hs hpg
  refine zck (s5 _ _ hx4) T.cl_Rounds T.na_Rounds_rests (by omega) (hR _ _ ?_)
  have npg:=free bt ngx hpg
  have l5:=zal (fs:=putF "queue" (.ref pt) fs0) (f := "rests") (v:=.ref pg)
  walk_at "rd"
  refine zck zab T.cl_Rounds T.na_Rounds_turn (by omega) ?_
  rw [zec]
  refine k ⟨x,pm,psh,pt,pg⟩ _ rfl ((bt.trans s5.but).trans zgg) npm npsh npt npg ⟨⟨dx,_,zab,?_⟩,?_,keepx ntx (s5 _ _ hptd),keepx ngx zab,ngs.symm,nx.symm⟩
  ·rw [<- hfs0]
   exact FR.mk0 _ _ _ _ _
  ·obtain ⟨d2,f2,g1,g2⟩:=(M.same s5).ex
   exact ⟨⟨d2,f2,keepx nx g1,g2⟩,keepx npx (s5 _ _ M.hs)⟩
def zqw (C Cm:Addr):Sp:=fun vs H Q _=>∃ a most nm q rs tu ch x,vs = [.ref a.p,.str x]/\Rx C Cm H a most nm q rs tu ch/\q.length<900/\rs.length<900/\shOf rs x=none/\∀ H',Own a H H'->Rx C Cm H' a most nm (q++[x]) (rs++[(x,0)]) tu ch->Q .non H'
theorem zif (T:Txt K mg c_WheelError c_NoName c_Taken c_NoClass c_NoPlace c_NoShare c_NoLength c_Members c_Chooser c_Starts c_Rounds c_Node c_Tree):MethD P w K mg base (CXX P w) 1 c_Rounds "enter" ["self", "name"] [[]] (zqw c_Rounds c_Members):=by
 refine T.me_Rounds_enter.okN (k:=0) zht (fun vs H Q E h=>?_) (fun f cdv A outer s H vs Q E hr h=>?_)
 ·obtain ⟨a,most,nm,q,rs,tu,ch,x,rfl,_⟩:=h
  rfl
 ·obtain ⟨a,most,nm,q,rs,tu,ch,x,rfl,S,lq,lr,hx,k⟩:=h
  refine ⟨_,(zae (zbj (pe_bm PySem.F.plainAttrs_list PySem.F.slot_list_append PySem.F.type_list_append zcx (zcc (pv 0) rfl) (zaa (pv 1) zag))) (zaf (zgh (hu_of hr) (zcc (pv 0) rfl) (pv 1) zai rfl))),?_⟩
  show tSeq _ _ _ [some (.ref a.p),some (.str x)] H
  obtain ⟨dx,fs,hp,ft⟩:=S.ex
  refine zad fun R hR=>?_
  walk_at "rd"
  refine zbh hp T.cl_Rounds T.na_Rounds_queue ft.qu ?_
  refine ⟨zeq S.hq,zhk S.hq (by rw [List.length_map]; omega) (hR _ _ ?_)⟩
  have e:q.map V.str++[V.str x] = (q++[x]).map V.str:=by rw [List.map_append]; rfl
  rw [e]
  have S:=S.set_q (q':=q++[x])
  have ow:Own a H (upd H a.pt (.lst ((q++[x]).map V.str))):=own_t
  generalize upd H a.pt (.lst ((q++[x]).map V.str))=H1 at S ow ⊢
  obtain ⟨dx,fs,hp,ft⟩:=S.ex
  walk_at "rd"
  refine zbh hp T.cl_Rounds T.na_Rounds_rests ft.re ?_
  walk_at "rd"
  refine ⟨_,DPut.k (k:=Sum.inr x) S.hr (line_lt (by rw [zkm]; omega)),?_⟩
  rw [zmm hx]
  exact k _ (ow.trans own_g) S.set_r
section
variable {most:Int} {nm:Nm} {q:List Str} {rs:Nm} {tu:Option Str}
theorem zug (h:Sw.RI most nm q rs tu):rs.length=nm.length/\q.length<=nm.length:=by
 have e1:=congrArg List.length h.ks
 have e2:=h.pm.length_eq
 rw [List.length_map,List.length_map] at e1
 rw [List.length_append,List.length_map] at e2
 exact ⟨e1,by omega⟩
end
def zuh (cT cS C Cm:Addr):Sp:=fun vs H Q E=>∃ a most nm q rs tu ch x s,vs = [.ref a.p,.str x,.int s]/\Rx C Cm H a most nm q rs tu ch/\Sw.RI most nm q rs tu/\nm.length<90/\(shOf nm x≠none->Rs cT H E)/\(shOf nm x=none->¬ (1<=s/\s<=1000000)->Rs cS H E)/\(shOf nm x=none->1<=s/\s<=1000000->∀ H',Own a H H'->Rx C Cm H' a most (nm++[(x,s)]) (q++[x]) (rs++[(x,0)]) tu ch->Q .non H')
theorem zku (T:Txt K mg c_WheelError c_NoName c_Taken c_NoClass c_NoPlace c_NoShare c_NoLength c_Members c_Chooser c_Starts c_Rounds c_Node c_Tree):MethD P w K mg base (CXX P w) 3 c_Rounds "put" ["self", "name", "share"] [[]] (zuh c_Taken c_NoShare c_Rounds c_Members):=by
 have M_Members_put:=zgb (P:=P) (w:=w) (base:=base) T
 have M_Rounds_enter:=zif (P:=P) (w:=w) (base:=base) T
 refine T.me_Rounds_put.okX (k:=2) zjl (fun vs H Q E h=>?_) (fun f cdv A outer s H vs Q E hr h=>?_)
 ·obtain ⟨a,most,nm,q,rs,tu,ch,x,s,rfl,_⟩:=h
  rfl
 ·obtain ⟨a,most,nm,q,rs,tu,ch,x,s,rfl,S,h,nl,kt,ks,k⟩:=h
  refine ⟨_,(zae (zbj (zbf (dvs:=[]) M_Members_put (by simp) T.cl_Members (hr.mono (by decide)) passF (zcc (pv 0) rfl) (zaa (pv 1) (zaa (pv 2) zag)))) (zaf (zbj (zbf (dvs:=[]) M_Rounds_enter (by simp) T.cl_Rounds (hr.mono (by decide)) passF (pv 0) (zaa (pv 1) zag))))),?_⟩
  show tSeq _ _ _ [some (.ref a.p),some (.str x),some (.int s)] H
  obtain ⟨dx,fs,hp,ft⟩:=S.ex
  obtain ⟨dm,fm,hpm,hfm,hno,hlen⟩:=S.mb.ex
  obtain ⟨l1,l2⟩:=zug h
  refine zad fun R hR=>?_
  walk_at "rd"
  refine zbh hp T.cl_Rounds T.na_Rounds_members ft.me ?_
  refine zbp hpm (hno _ (by decide +kernel)) ⟨a.pm,a.ps,nm,x,s,rfl,S.mb,by omega,kt,ks,fun hx hs=>hR _ _ ?_⟩
  have S:=S.set_s (nm':=nm++[(x,s)])
  have ow:Own a H (upd H a.ps (.dK (kvsOf (nm++[(x,s)])))):=own_s
  generalize upd H a.ps (.dK (kvsOf (nm++[(x,s)])))=H1 at S ow ⊢
  walk_at "rd"
  exact S.meth (by decide +kernel) ⟨a,most,_,q,rs,tu,ch,x,rfl,S,by omega,by omega,(by rw [Sw.sh_none,h.ks,<- Sw.sh_none]; exact hx),fun H' o' S'=>k hx hs H' (ow.trans o') S'⟩
def zqx (C Cm:Addr):Sp:=fun vs H Q _=>∃ a most nm q rs tu ch,vs = [.ref a.p]/\Rx C Cm H a most nm q rs tu ch/\∀ l,H l=none->Q (.ref l) (upd H l (.lst (nmV nm)))
theorem zig (T:Txt K mg c_WheelError c_NoName c_Taken c_NoClass c_NoPlace c_NoShare c_NoLength c_Members c_Chooser c_Starts c_Rounds c_Node c_Tree):MethD P w K mg base (CXX P w) 2 c_Rounds "names" ["self"] [[]] (zqx c_Rounds c_Members):=by
 have M_Members_names:=zew (P:=P) (w:=w) (base:=base) T
 refine T.me_Rounds_names.okN (k:=1) zhu (fun vs H Q E h=>?_) (fun f cdv A outer s H vs Q E hr h=>?_)
 ·obtain ⟨a,most,nm,q,rs,tu,ch,rfl,_⟩:=h
  rfl
 ·obtain ⟨a,most,nm,q,rs,tu,ch,rfl,S,k⟩:=h
  refine ⟨_,(zaf (zat (zfs (dvs:=[]) M_Members_names (by simp) T.cl_Members (hr.mono (by decide)) passN (zcc (pv 0) rfl)))),?_⟩
  show tRet _ _ [some (.ref a.p)] H
  obtain ⟨dx,fs,hp,ft⟩:=S.ex
  obtain ⟨dm,fm,hpm,hfm,hno,hlen⟩:=S.mb.ex
  walk_at "rd"
  refine zbh hp T.cl_Rounds T.na_Rounds_members ft.me ?_
  exact zbp hpm (hno _ (by decide +kernel)) ⟨a.pm,a.ps,nm,rfl,S.mb,k⟩
theorem zih (T:Txt K mg c_WheelError c_NoName c_Taken c_NoClass c_NoPlace c_NoShare c_NoLength c_Members c_Chooser c_Starts c_Rounds c_Node c_Tree):Def P w K mg base (CXX P w) 1 "_law_cell_at" ["_law_script", "_law_k"] (zri K):=by
 refine T.src__law_cell_at.okN (k:=0) zhp (fun vs H Q E h=>?_) (fun f cdv A outer s H vs Q E hr h=>?_)
 ·obtain ⟨a,ns,i,rfl,_⟩:=h
  rfl
 ·obtain ⟨a,ns,i,rfl,hS,hi,k⟩:=h
  refine ⟨_,(zae (ps_if (zap op_lt (pv 1) (zbi (zdv K rfl) rfl T.no_len boot_len (zaa (pv 0) zag)) (zar _)) (zaf (zat (pe_ix (zav K rfl) (pv 0) (pv 1) (fun _ _=>rfl)))) zas) (zaf (zat zai))),?_⟩
  refine ⟨_,rfl,_,rfl,a,_,rfl,.inl hS,_,_,rfl,rfl,_,rfl,?_⟩
  refine ite2 (fun h=>?_) (fun h=>?_)
  ·have h':i<(ns.map V.int).length:=of_decide_eq_true h
   exact ⟨_,rfl,_,rfl,a,_,_,_,rfl,rfl,hS,znb hi (by simpa using h'),k⟩
  ·have h':¬ i<(ns.map V.int).length:=fun z=>h (decide_eq_true z)
   show Q (.int 0) H
   rw [zlg hi (by simpa using h')] at k
   exact k
theorem zmr (xs:List V) (n:Nat) (h:n<=xs.length):cutV xs (some (n:Int)) none=xs.drop n:=by
 unfold cutV
 rw [HT.sIx_none,HT.sIx_nat,Nat.min_eq_left h]
 exact List.take_of_length_le (by rw [List.length_drop]; omega)
def zqy:Sp:=fun vs H Q _=>∃ c mn,vs = [.int c,.int ((mn:Nat):Int)]/\mn<=60/\∀ p (ms:List Int) H',Same H H'->H p=none->H' p=some (.lst (ms.map V.int))->ms.length=mn->(∀ m∈ms,0<=m/\m<2147483647)->Q (.ref p) H'
theorem zjm (T:Txt K mg c_WheelError c_NoName c_Taken c_NoClass c_NoPlace c_NoShare c_NoLength c_Members c_Chooser c_Starts c_Rounds c_Node c_Tree):Def P w K mg base (CXX P w) 1 "_law_stream" ["_law_cell", "_law_many"] zqy:=by
 refine T.src__law_stream.okN (k:=0) sc__law_stream (fun vs H Q E h=>?_) (fun f cdv A outer s H vs Q E hr h=>?_)
 ·obtain ⟨c,mn,rfl,_⟩:=h
  rfl
 ·obtain ⟨c,mn,rfl,mn6,k⟩:=h
  refine ⟨_,(zae (zau (i:=2) sc__law_stream.nd rfl (by first|left;rfl|right;rfl) (zdg zag)) (zae (zau (i:=3) sc__law_stream.nd rfl (by first|left;rfl|right;rfl) (pe_op zeg (pe_op zcu (pv 0) zai) zai)) (zae (zrb PassesOwn.never rfl (zjp rfl T.no_range (zaa (pe_op zeg (pv 1) zai) zag)) (zdu (i:=4) sc__law_stream.nd rfl (by first|left;rfl|right;rfl)) (zae (zau (i:=3) sc__law_stream.nd rfl (by first|left;rfl|right;rfl) (pe_op zcu (pe_op zeg (pe_op zeg (pe_op zle (pv 3) (pv 3)) (pe_op zle zai (pv 3))) (pv 4)) zai)) (zaf (zbj (pe_bm PySem.F.plainAttrs_list PySem.F.slot_list_append PySem.F.type_list_append zcx (pv 2) (zaa (pv 3) zag)))))) (zaf (zat (zfq (zfr K rfl) (pv 2) (zgd zai) zix)))))),?_⟩
  show tSeq _ _ _ [some (.int c),some (.int ((mn:Nat):Int)),none,none,none] H
  refine zad fun R hR=>?_
  walk_at "rd"
  intro p0 hp0
  refine hR _ _ ?_
  have s0:=zak (o:=.lst []) hp0
  have h0:upd H p0 (.lst []) p0=some (.lst (([]:List Int).map V.int)):=zab
  generalize upd H p0 (.lst [])=H0 at s0 h0 ⊢
  refine zad fun R hR=>?_
  walk_at "rd"
  refine hR _ _ ?_
  have e1:=Int.emod_nonneg c (show (2147483647:Int)≠0 by decide)
  have e2:=Int.emod_lt_of_pos c (show (0:Int)<2147483647 by decide)
  generalize hx:c % 2147483647+48271=x
  have x0:0<=x:=by omega
  have x1:x<3000000000:=by omega
  clear hx e1 e2
  refine zad fun R hR=>?_
  refine zmi fun Z hZ=>?_
  walk_at "rd"
  have e1:((mn:Int)+1).toNat=mn+1:=by omega
  rw [e1]
  refine ⟨by omega,by omega,hZ _ _ ?_⟩
  refine znt (fun i σ H'=>∃ n v4 ms,σ = [some (.int c),some (.int ((mn:Nat):Int)),some (.ref p0),some (.int n),v4]/\Same H H'/\H' p0=some (.lst ((ms:List Int).map V.int))/\ms.length=i/\(∀ m∈ms,0<=m/\m<2147483647)/\0<=n/\n<3000000000) ⟨x,none,[],rfl,s0,h0,rfl,fun m h=>absurd h List.not_mem_nil,x0,x1⟩ ?_ ?_
  ·rintro i σ H1 hi ⟨n,v4,ms,rfl,sm,hl,lm,mm,n0,n1⟩
   show tSeq _ _ _ [some (.int c),some (.int ((mn:Nat):Int)),some (.ref p0),some (.int n),some (.int (0+(i:Int)))] H1
   have zn:Sw.Sz 70 n:=Sw.Sz.r18 (by omega) (by omega)
   refine zad fun R hR=>?_
   walk_at "rd"
   refine ⟨⟨zn.mono (by decide),zn.mono (by decide)⟩,⟨Sw.Sz.lit (by decide),zn.mono (by decide)⟩,hR _ _ ?_⟩
   generalize hy:(n*n+48271*n+(0+(i:Int))) % 2147483647=y
   have y0:0<=y:=by rw [<- hy]; exact Int.emod_nonneg _ (by decide)
   have y1:y<2147483647:=by rw [<- hy]; exact Int.emod_lt_of_pos _ (by decide)
   refine zje fun R hR=>?_
   walk_at "rd"
   refine ⟨zeq hl,zhk hl (by rw [List.length_map]; omega) (hR _ _ ?_)⟩
   refine ⟨y,_,ms++[y],rfl,fun b o e=>?_,by rw [zab,List.map_append]; rfl,by simp [lm],fun m h=>?_,y0,by omega⟩
   ·rw [zah (zan e hp0)]; exact sm _ _ e
   ·rcases List.mem_append.mp h with z | z
    ·exact mm m z
    ·have:m=y:=by simpa using z
     subst this
     exact ⟨y0,y1⟩
  ·rintro σ H1 ⟨n,v4,ms,rfl,sm,hl,lm,mm,n0,n1⟩
   refine hR _ _ ?_
   walk_at "rd"
   refine zke (.of hl) fun p hp=>?_
   have lm:ms.length=mn+1:=by simpa using lm
   have ec:=zmr (ms.map V.int) 1 (by rw [List.length_map]; omega)
   refine k p (ms.drop 1) _ (sm.trans (zak hp)) (sm.free hp) (by rw [zab]; exact congrArg (fun z=>some (HO.lst z)) (ec.trans (by rw [List.map_drop]))) (by rw [List.length_drop,lm]; omega) fun m h=>mm m (List.mem_of_mem_drop h)
def spCM (cL:Addr):Sp:=fun vs H Q E=>∃ m:Int,vs = [.int m]/\(1<=m/\m<=1000000->Q .non H)/\(¬ (1<=m/\m<=1000000)->Rs cL H E)
theorem zkv (T:Txt K mg c_WheelError c_NoName c_Taken c_NoClass c_NoPlace c_NoShare c_NoLength c_Members c_Chooser c_Starts c_Rounds c_Node c_Tree):Def P w K mg base (CXX P w) 1 "check_most" ["most"] (spCM c_NoLength):=by
 refine T.src_check_most.okX (k:=0) zjh (fun vs H Q E h=>?_) (fun f cdv A outer s H vs Q E hr h=>?_)
 ·obtain ⟨m,rfl,_⟩:=h
  rfl
 ·obtain ⟨m,rfl,k,kx⟩:=h
  refine ⟨_,(zaf (ps_if (zhd (zlw op_le op_le zai (pv 0) (zha rfl T.mg_GREATEST_LENGTH))) (zaf (zcz K rfl rfl zeo (zep T.ex_NoLength T.kp_NoLength rfl T.mg_NoLength (zaa zaq zag)))) zas)),?_⟩
  show tIfS _ _ _ _ [some (.int m)] H
  walk_at "rd"
  refine ite2 (fun c1=>ite2 (fun c2=>k ⟨c1,c2⟩) fun c2=>rs_of (kx fun q=>c2 q.2) T.xc_NoLength) fun c1=>rs_of (kx fun q=>c1 q.1) T.xc_NoLength
def spIN:Sp:=fun vs H Q _=>∃ z:Str,vs = [.str z]/\z.length<=10000/\∀ H',Same H H'->Q (.bl (decide (zcw z))) H'
theorem zpo (T:Txt K mg c_WheelError c_NoName c_Taken c_NoClass c_NoPlace c_NoShare c_NoLength c_Members c_Chooser c_Starts c_Rounds c_Node c_Tree):Def P w K mg base (CXX P w) 1 "is_name" ["text"] spIN:=by
 refine T.src_is_name.okN (k:=0) zng (fun vs H Q E h=>?_) (fun f cdv A outer s H vs Q E hr h=>?_)
 ·obtain ⟨z,rfl,_⟩:=h
  rfl
 ·obtain ⟨z,rfl,zl,k⟩:=h
  refine ⟨_,(zaf (zat (znp (zpx op_le op_le zai (zbi zgq rfl T.no_len boot_len (zaa (pv 0) zag)) (zha rfl T.mg_LONGEST_NAME)) (zno (zbi (zop K rfl rfl) rfl T.no_all boot_all (zaa (pe_lc ["sign"] [] rfl (by with_unfolding_all rfl) (by decide +kernel) rfl (by decide +kernel) (by exact True.intro) (by with_unfolding_all rfl) True.intro (zro (pv 0)) (fun _ _ _=>(zdu (i:=0) (show (["sign"]:List Str).Nodup from by decide +kernel) rfl (by first|left;rfl|right;rfl))) (fun _ _ _=>zmb) (fun _ _ _=>(zhe zuc (pv 0) (zfb rfl T.mg_LETTERS) rfl))) zag)))))),?_⟩
  show tRet _ _ [some (.str z)] H
  walk_at "rd"
  have no:∀ {H'},Same H H'->¬ zcw z->Q (.bl false) H':=fun s q=>by
   have:=k _ s
   rw [decide_eq_false q] at this
   exact this
  refine ⟨zfj (by omega),ite2 (fun c1=>ite2 (fun c2=>?_) fun c2=>no (Same.refl _) fun q=>c2 (by have:=q.1.2; omega)) fun c1=>no (Same.refl _) fun q=>c1 (by have:=q.1.1; omega)⟩
  simp only [iStr]
  walk_at "rd"
  intro D hD
  show CompG _ _ _ _ D [none] _ _
  refine zmn (fun i τ H'=>(∃ v,τ = [v])/\Same H H'/\H' D=some (.lst (((z.cps.toList.take i).map fun c=>decide (c∈lets.cps.toList)).map V.bl))) ⟨⟨none,rfl⟩,zak hD,zab⟩ ?_ ?_
  ·rintro i c τ H' hc ⟨⟨v,rfl⟩,s',hDl⟩
   have hi:=(List.getElem?_eq_some_iff.mp hc).1
   rw [Sw.len_list] at hi
   walk_at "rd"
   simp only [tYes,if_true]
   walk_at "rd"
   refine ⟨sg c,lets,rfl,rfl,?_⟩
   refine ⟨_,hDl,zeu (by rw [List.length_map,List.length_map,List.length_take]; omega),fun b o e=>?_,?_⟩
   ·rw [zah (zan e hD)]; exact s' _ _ e
   ·rw [zab,zhb hc,List.map_append,List.map_append]
    show some (HO.lst (_++[V.bl (Txt.contains lets (sg c))]))=some (HO.lst (_++[V.bl (decide (c∈lets.cps.toList))]))
    rw [Sw.in_str lets c]
  ·rintro τ H1 ⟨_,s1,hDl⟩
   rw [<- Sw.len_list,List.take_length] at hDl
   refine ⟨D,_,rfl,.of hDl,?_⟩
   have e:((z.cps.toList.map fun c=>decide (c∈lets.cps.toList)).all id)=decide (zcw z):=by
    rw [Bool.eq_iff_iff,List.all_eq_true,decide_eq_true_iff]
    constructor
    ·intro h
     refine ⟨⟨by omega,by omega⟩,fun c hc=>?_⟩
     have:=h _ (List.mem_map.mpr ⟨c,hc,rfl⟩)
     simpa using this
    ·intro h x hx
     obtain ⟨c,hc,rfl⟩:=List.mem_map.mp hx
     simpa using h.2 c hc
   rw [e]
   exact k _ s1
def spCO (cS cR cM:Addr):Sp:=fun vs H Q _=>∃ (kd:Str) (m:Int),vs = [.str kd,.int m]/\1<=m/\(Inner kd->∀ (a:At5) H',Same H H'->(∀ b∈five a,H b=none)->ChS cS cR cM H' a m (CSt.new (kdB kd))->Q (.ref a.p) H')/\(¬ Inner kd->Q .non H)
theorem zgt (T:Txt K mg c_WheelError c_NoName c_Taken c_NoClass c_NoPlace c_NoShare c_NoLength c_Members c_Chooser c_Starts c_Rounds c_Node c_Tree):Def P w K mg base (CXX P w) 6 "chooser_of" ["kind", "most"] (spCO c_Starts c_Rounds c_Members):=by
 have K_Starts:=zqu (P:=P) (w:=w) (base:=base) T
 have K_Rounds:=zqv (P:=P) (w:=w) (base:=base) T
 refine T.src_chooser_of.okN (k:=5) zji (fun vs H Q E h=>?_) (fun f cdv A outer s H vs Q E hr h=>?_)
 ·obtain ⟨c,m,rfl,_⟩:=h
  rfl
 ·obtain ⟨kd,m,rfl,m1,k,kn⟩:=h
  refine ⟨_,(zae (ps_if (zap op_eq (pv 0) zaq (zar _)) (zaf (zat (zfa (dvs:=[]) K_Starts (by simp) (hr.mono (by decide)) passN rfl T.mg_Starts (zaa (pv 1) zag)))) zas) (zae (ps_if (zap op_eq (pv 0) zaq (zar _)) (zaf (zat (zfa (dvs:=[]) K_Rounds (by simp) (hr.mono (by decide)) passN rfl T.mg_Rounds (zaa (pv 1) zag)))) zas) (zaf (zat zdy)))),?_⟩
  show tSeq _ _ _ [some (.str kd),some (.int m)] H
  have no:∀ {H1:Hp} {b:Addr},Same H H1->H1 b=none->H b=none:=fun {H1 b} s e=>by
   cases z:H b with
   | none=>rfl
   | some o=>rw [s _ _ z] at e; cases e
  have nw:∀ {a:At5} {H1:Hp},Same H H1->H a.p=none->H1 a.pm=none->H1 a.ps=none->H1 a.pt=none->H1 a.pg=none->∀ b∈five a,H b=none:=fun {a H1} s h1 h2 h3 h4 h5 b hb=>by
   rcases mem_five.mp hb with z | z | z | z | z <;> subst z
   ·exact h1
   ·exact no s h2
   ·exact no s h3
   ·exact no s h4
   ·exact no s h5
  refine zad fun R hR=>?_
  walk_at "rd"
  refine ite2 (fun c1=>?_) fun c1=>hR _ _ ?_
  ·intro x dx hx hdx ne
   refine ⟨x,dx,m,rfl,zab,fun a H2 ea bt n1 n2 n3 n4 S=>⟨rfl,?_⟩⟩
   subst ea
   have e:kdB kd=false:=by rw [c1]; decide +kernel
   exact k (.inl c1) a H2 (bt.same (zcy hx hdx) hx) (nw (zcy hx hdx) hx n1 n2 n3 n4) (by rw [e]; exact S)
  clear hR
  refine zad fun R hR=>?_
  walk_at "rd"
  refine ite2 (fun c2=>?_) fun c2=>hR _ _ ?_
  ·intro x dx hx hdx ne
   refine ⟨x,dx,m,rfl,zab,fun a H2 ea bt n1 n2 n3 n4 S=>⟨rfl,?_⟩⟩
   subst ea
   have e:kdB kd=true:=by rw [c2]; decide +kernel
   exact k (.inr c2) a H2 (bt.same (zcy hx hdx) hx) (nw (zcy hx hdx) hx n1 n2 n3 n4) (by rw [e]; exact S)
  walk_at "rd"
  exact kn fun q=>q.elim c1 c2
def spNI (cN:Addr):Sp:=fun vs H Q _=>∃ x dx ab ch rm,vs = [.ref x,ab,ch,rm]/\H x=some (.ins cN dx [])/\∀ ql fs H',But x H H'->H ql=none->H' x=some (.ins cN dx fs)->FN fs ab ch rm .non ql->H' ql=some (.lst [])->Q .non H'
theorem zrr (T:Txt K mg c_WheelError c_NoName c_Taken c_NoClass c_NoPlace c_NoShare c_NoLength c_Members c_Chooser c_Starts c_Rounds c_Node c_Tree):MkD P w K mg base (CXX P w) 1 c_Node ["self", "above", "chooser", "room"] [[],[V.non]] (spNI c_Node):=by
 refine T.in_Node.okN (k:=0) zkq (fun vs H Q E h=>?_) (fun f cdv A outer s H vs Q E hr h=>?_)
 ·obtain ⟨x,dx,ab,ch,rm,rfl,_⟩:=h
  rfl
 ·obtain ⟨x,dx,ab,ch,rm,rfl,hx,k⟩:=h
  refine ⟨_,(zae (zcj (pv 0) (pv 1) rfl) (zae (zcj (pv 0) (pv 2) rfl) (zae (zcj (pv 0) (pv 3) rfl) (zae (zcj (pv 0) zdy rfl) (zaf (zcj (pv 0) (zdg zag) rfl)))))),?_⟩
  show tSeq _ _ _ [some (.ref x),some ab,some ch,some rm] H
  have l1:=zal (fs:=[]) (f := "above") (v:=ab)
  have l2:=zal (fs:=putF "above" ab []) (f := "chooser") (v:=ch)
  have l3:=zal (fs:=putF "chooser" ch (putF "above" ab [])) (f := "room") (v:=rm)
  have l4:=zal (fs:=putF "room" rm (putF "chooser" ch (putF "above" ab []))) (f := "bucket") (v:=.non)
  simp only [List.length_nil] at l1
  refine zad fun R hR=>?_
  walk_at "rd"
  refine zck hx T.cl_Node T.na_Node_above (by simp) (hR _ _ ?_)
  clear hR
  refine zad fun R hR=>?_
  walk_at "rd"
  refine zck zab T.cl_Node T.na_Node_chooser (by omega) (hR _ _ ?_)
  clear hR
  rw [zec]
  refine zad fun R hR=>?_
  walk_at "rd"
  refine zck zab T.cl_Node T.na_Node_room (by omega) (hR _ _ ?_)
  clear hR
  rw [zec]
  refine zad fun R hR=>?_
  walk_at "rd"
  refine zck zab T.cl_Node T.na_Node_bucket (by omega) (hR _ _ ?_)
  clear hR
  rw [zec]
  walk_at "rd"
  intro ql fql
  have nx:ql≠x:=fun z=>by rw [z,zab] at fql; cases fql
  have nql:H ql=none:=by rw [zah nx] at fql; exact fql
  refine zck (by rw [zah (Ne.symm nx),zab]) T.cl_Node T.na_Node_queue (by omega) ?_
  refine k ql _ _ (fun b o n e=>?_) nql zab (FN.mk0 _ _ _ _ _) ?_
  ·rw [zah n,zah (zan e nql),zah n]; exact e
  ·rw [zah nx,zab]
def spCC (cC:Addr) (C:Cl):Sp:=fun vs H Q E=>∃ (D:TD) (x:Str),vs = [.ref D.p,.str x]/\TrOk C H D/\(x≠road->fndN D.ns x≠none->Q .non H)/\(x=road\/fndN D.ns x=none->Rs cC H E)
theorem zeb (T:Txt K mg c_WheelError c_NoName c_Taken c_NoClass c_NoPlace c_NoShare c_NoLength c_Members c_Chooser c_Starts c_Rounds c_Node c_Tree):MethD P w K mg base (CXX P w) 1 c_Tree "check_class" ["self", "name"] [[]] (spCC c_NoClass (⟨c_Node,c_Starts,c_Rounds,c_Members,c_Node,c_Tree⟩:Cl)):=by
 refine T.me_Tree_check_class.okX (k:=0) zfk (fun vs H Q E h=>?_) (fun f cdv A outer s H vs Q E hr h=>?_)
 ·obtain ⟨D,x,rfl,_⟩:=h
  rfl
 ·obtain ⟨D,x,rfl,O,k,kx⟩:=h
  refine ⟨_,(zaf (ps_if (PW.pt (pw_or (zap op_eq (pv 1) (zfb rfl T.mg_ROAD) (zar _)) (zgo (zgn (zft (hu_of hr) (pv 1) (zcc (pv 0) rfl)))))) (zaf (zcz K rfl rfl zeo (zep T.ex_NoClass T.kp_NoClass rfl T.mg_NoClass (zaa zaq zag)))) zas)),?_⟩
  show tIfS _ _ _ _ [some (.ref D.p),some (.str x)] H
  obtain ⟨dx,fs,hp,ft⟩:=O.ex
  walk_at "rd"
  refine ite2 (fun c1=>rs_of (kx (.inl c1)) T.xc_NoClass) fun c1=>?_
  refine zbh hp T.cl_Tree T.na_Tree_nodes ft.no ?_
  walk_at "rd"
  refine ⟨_,DGet.k (k:=Sum.inr x) O.hn,?_⟩
  rw [zhn]
  cases e:fndN D.ns x with
  | none=>exact rs_of (kx (.inr e)) T.xc_NoClass
  | some v=>exact k c1 (by rw [e]; simp)
def spFR (C:Cl):Sp:=fun vs H Q _=>∃ (D:TD) (x:Str) (ys:List Str),vs = [.ref D.p,.str x]/\TrOk C H D/\Up D.ns x ys/\ys.length<=900/\∀ l H',Same H H'->H l=none->H' l=some (.lst (ys.reverse.map V.str))->Q (.ref l) H'
theorem zer (T:Txt K mg c_WheelError c_NoName c_Taken c_NoClass c_NoPlace c_NoShare c_NoLength c_Members c_Chooser c_Starts c_Rounds c_Node c_Tree):MethD P w K mg base (CXX P w) 1 c_Tree "from_road" ["self", "name"] [[]] (spFR (⟨c_Node,c_Starts,c_Rounds,c_Members,c_Node,c_Tree⟩:Cl)):=by
 refine T.me_Tree_from_road.okN (k:=0) sc_Tree_from_road (fun vs H Q E h=>?_) (fun f cdv A outer s H vs Q E hr h=>?_)
 ·obtain ⟨D,x,ys,rfl,_⟩:=h
  rfl
 ·obtain ⟨D,x,ys,rfl,O,U,yl,k⟩:=h
  refine ⟨_,(zae (zau (i:=2) sc_Tree_from_road.nd rfl (by first|left;rfl|right;rfl) (zdg zag)) (zae (zgz PassesOwn.never (zap ziv (pv 1) zdy (zar _)) (zae (zbj (pe_bm PySem.F.plainAttrs_list PySem.F.slot_list_append PySem.F.type_list_append zcx (pv 2) (zaa (pv 1) zag))) (zaf (zau (i:=1) sc_Tree_from_road.nd rfl (by first|left;rfl|right;rfl) (zcc (zem (hu_of hr) (zcc (pv 0) rfl) (pv 1) (fun _ _=>rfl)) rfl))))) (zae (zbj (ztn PySem.F.plainAttrs_list PySem.F.slot_list_reverse PySem.F.type_list_reverse zna (pv 2))) (zaf (zat (pv 2)))))),?_⟩
  show tSeq _ _ _ [some (.ref D.p),some (.str x),none] H
  refine zad fun R hR=>?_
  walk_at "rd"
  intro l hl
  have s0:=zak (o:=.lst []) hl
  refine hR _ _ ?_
  clear hR
  refine zad fun R hR=>?_
  refine zln (fun m σ H'=>∃ (xo:Option Str) (zs ws:List Str),σ = [some (.ref D.p),some (optS xo),some (.ref l)]/\Same H H'/\H' l=some (.lst (zs.map V.str))/\ys=zs++ws/\(∀ z,xo=some z->Up D.ns z ws)/\(xo=none->ws = [])/\m=ws.length) ⟨some x,[],ys,rfl,s0,zab,rfl,fun z e=>(by cases e; exact U),fun e=>(by cases e),rfl⟩ ?_
  rintro m σ H1 ⟨xo,zs,ws,rfl,s1,h1,ey,hu,hn,rfl⟩
  cases xo with
  | none =>
   refine ⟨false,fun Q hQ=>?_,fun z=>(by cases z),fun _=>?_⟩
   ·walk_at "rd"
    exact hQ
   ·have:ws = []:=hn rfl
    subst this
    rw [List.append_nil] at ey
    subst ey
    refine hR _ _ ?_
    clear hR
    refine zad fun R hR=>?_
    walk_at "rd"
    refine ⟨zeq h1,l,_,rfl,rfl,h1,hR _ _ ?_⟩
    walk_at "rd"
    refine k l _ (fun b o e=>?_) hl ?_
    ·rw [zah (zan e hl)]; exact s1 _ _ e
    ·rw [zab,List.map_reverse]
  | some z =>
   have Uz:=hu z rfl
   obtain ⟨n,hz⟩:=Uz.fnd
   refine ⟨true,fun Q hQ=>?_,fun _=>?_,fun z=>by cases z⟩
   ·walk_at "rd"
    exact hQ
   ·have zl:zs.length<=900:=by rw [ey,List.length_append] at yl; omega
    refine zad fun R hR=>?_
    walk_at "rd"
    refine ⟨zeq h1,zhk h1 (by rw [List.length_map]; omega) (hR _ _ ?_)⟩
    clear hR
    have O1:=O.same s1
    have s2:Same H (upd H1 l (.lst (zs.map V.str++[.str z]))):=fun b o e=>by rw [zah (zan e hl)]; exact s1 _ _ e
    have O2:=O.same s2
    have h2:upd H1 l (.lst (zs.map V.str++[.str z])) l=some (.lst ((zs++[z]).map V.str)):=by rw [zab,List.map_append]; rfl
    show tAsg _ _ _ _ (upd H1 l (.lst (zs.map V.str++[.str z])))
    generalize upd H1 l (.lst (zs.map V.str++[.str z]))=H2 at s2 O2 h2 ⊢
    obtain ⟨dx,fs,hp,ft⟩:=O2.ex
    obtain ⟨nin,_⟩:=zdp hz
    obtain ⟨dn,fn,hnp,hft⟩:=(O2.nd n nin).ex
    walk_at "rd"
    refine zbh hp T.cl_Tree T.na_Tree_nodes ft.no ?_
    walk_at "rd"
    refine ⟨_,nd_at O2 hz,?_⟩
    refine zbh hnp T.cl_Node T.na_Node_above hft.ab ?_
    cases Uz with
    | top q1 q2 =>
     rw [hz] at q1; cases q1
     exact ⟨0,by simp,none,by rw [q2],s2,zs++[z],h2,[],by rw [List.append_nil]; exact ey,fun z e=>(by cases e),fun _=>rfl,rfl⟩
    | on q1 q2 q3 =>
     rw [hz] at q1; cases q1
     rename_i y ys'
     exact ⟨ys'.length,by simp,some y,by rw [q2],s2,zs++[z],h2,ys',by rw [ey]; simp,fun z e=>(by cases e; exact q3),fun e=>(by cases e),rfl⟩
def spCP (cP:Addr) (C:Cl):Sp:=fun vs H Q E=>∃ (D:TD) (u kd:Str) (n:ND) (ys:List Str),vs = [.ref D.p,.str u,.str kd]/\TrOk C H D/\fndN D.ns u=some n/\Up D.ns u ys/\ys.length<=900/\(∀ H',Same H H'->¬ (kdOk kd/\n.ch≠none/\ys.length<=5)->Rs cP H' E)/\(∀ H',Same H H'->kdOk kd/\n.ch≠none/\ys.length<=5->Q .non H')
theorem zgc (T:Txt K mg c_WheelError c_NoName c_Taken c_NoClass c_NoPlace c_NoShare c_NoLength c_Members c_Chooser c_Starts c_Rounds c_Node c_Tree):MethD P w K mg base (CXX P w) 2 c_Tree "check_place" ["self", "under", "kind"] [[]] (spCP c_NoPlace (⟨c_Node,c_Starts,c_Rounds,c_Members,c_Node,c_Tree⟩:Cl)):=by
 have M_Tree_from_road:=zer (P:=P) (w:=w) (base:=base) T
 refine T.me_Tree_check_place.okX (k:=1) zfl (fun vs H Q E h=>?_) (fun f cdv A outer s H vs Q E hr h=>?_)
 ·obtain ⟨D,u,kd,n,ys,rfl,_⟩:=h
  rfl
 ·obtain ⟨D,u,kd,n,ys,rfl,O,hu,U,yl,kx,k⟩:=h
  obtain ⟨t_INNER_KINDS,h_INNER_KINDS,w_INNER_KINDS⟩:=T.mg_INNER_KINDS
  refine ⟨_,(zae (ps_if (PW.pt (zdz (zap op_ne (pv 2) (zfb rfl T.mg_LEAF) (zar _)) (zef (zap (zhl K rfl) (pv 2) (zee (v:=.ref t_INNER_KINDS) rfl h_INNER_KINDS rfl) rfl)))) (zaf (zcz K rfl rfl zeo (zep T.ex_NoPlace T.kp_NoPlace rfl T.mg_NoPlace (zaa zaq zag)))) zas) (zae (ps_if (zap zre (zcc (zem (hu_of hr) (zcc (pv 0) rfl) (pv 1) (fun _ _=>rfl)) rfl) zdy (zar _)) (zaf (zcz K rfl rfl zeo (zep T.ex_NoPlace T.kp_NoPlace rfl T.mg_NoPlace (zaa zaq zag)))) zas) (zaf (ps_if (zap op_gt (zbi (zdv K rfl) rfl T.no_len boot_len (zaa (zbf (dvs:=[]) M_Tree_from_road (by simp) T.cl_Tree (hr.mono (by decide)) passF (pv 0) (zaa (pv 1) zag)) zag)) (zha rfl T.mg_LONGEST_WAY) (zar _)) (zaf (zcz K rfl rfl zeo (zep T.ex_NoPlace T.kp_NoPlace rfl T.mg_NoPlace (zaa zaq zag)))) zas)))),?_⟩
  show tSeq _ _ _ [some (.ref D.p),some (.str u),some (.str kd)] H
  obtain ⟨dx,fs,hp,ft⟩:=O.ex
  obtain ⟨nin,_⟩:=zdp hu
  obtain ⟨dn,fn,hnp,hft⟩:=(O.nd n nin).ex
  refine zad fun R hR=>?_
  walk_at "rd"
  have on:kdOk kd->R [some (.ref D.p),some (.str u),some (.str kd)] H:=fun ok=>hR _ _ (by
   clear hR
   refine zad fun R hR=>?_
   walk_at "rd"
   refine zbh hp T.cl_Tree T.na_Tree_nodes ft.no ?_
   walk_at "rd"
   refine ⟨_,nd_at O hu,?_⟩
   refine zbh hnp T.cl_Node T.na_Node_chooser hft.ch ?_
   cases hc:n.ch with
   | none =>
    walk_at "rd"
    exact rs_of (kx H (Same.refl _) fun q=>q.2.1 hc) T.xc_NoPlace
   | some c =>
    show R _ _
    refine hR _ _ ?_
    walk_at "rd"
    refine zbp hp (ft.mis _ (by decide +kernel) (by decide +kernel) (by decide +kernel) (by decide +kernel) (by decide +kernel) (by decide +kernel)) ⟨D,u,ys,rfl,O,U,yl,fun l H' s' hl e=>?_⟩
    refine zil (.of e) ⟨_,rfl,?_⟩
    rw [List.length_map,List.length_reverse]
    refine ite2 (fun c2=>rs_of (kx H' s' fun q=>by omega) T.xc_NoPlace) fun c2=>k H' s' ⟨ok,by rw [hc]; simp,by omega⟩)
  refine ite2 (fun c1=>on (.inl c1)) fun c1=>?_
  refine ⟨_,_,rfl,.inr (w_INNER_KINDS H),rfl,rfl,_,rfl,?_⟩
  rw [zmp,if_pos rfl]
  by_cases c2:Inner kd
  ·rw [if_neg (by simp [c2])]
   exact on (.inr c2)
  ·rw [if_pos (by simp [c2])]
   exact rs_of (kx H (Same.refl _) fun q=>q.1.elim c1 c2) T.xc_NoPlace
def spTP (cN cT cC cP cS cL:Addr) (C:Cl):Sp:=fun vs H Q E=>∃ (D:TD) (x u kd:Str) (s:Int) (rm:V),vs = [.ref D.p,.str x,.str u,.str kd,.int s,rm]/\TrOk C H D/\D.Wf/\D.full/\StOk 10000 x/\(rm = .non\/∃ r,rm = .int r) /\
 (∀ r,dueP D x u kd s rm=some r->∀ H',Same H H'->Rs (r.at cN cT cC cP cS cL) H' E) /\
 (dueP D x u kd s rm=none->∀ (un:ND) (c:At5×CSt) (n:ND) H',fndN D.ns u=some un->un.ch=some c->n.nm=x->n.ab=some u->n.rm=rm->n.bk=none->n.ps = []->n.qu = []->(kd=Str.ofString "leaf" -> n.ch=none)->(Inner kd->∃ a,n.ch=some (a,CSt.new (kdB kd)))->(∀ b∈n.foot,H b=none)->TrOk C H' (D.put un c s n)->Deed D.foot H H'->Q .non H')
theorem zis (T:Txt K mg c_WheelError c_NoName c_Taken c_NoClass c_NoPlace c_NoShare c_NoLength c_Members c_Chooser c_Starts c_Rounds c_Node c_Tree):MethD P w K mg base (CXX P w) 7 c_Tree "put" ["self", "name", "under", "kind", "share", "room"] [[],[V.non]] (spTP c_NoName c_Taken c_NoClass c_NoPlace c_NoShare c_NoLength (⟨c_Node,c_Starts,c_Rounds,c_Members,c_Node,c_Tree⟩:Cl)):=by
  have D_is_name:=zpo (P:=P) (w:=w) (base:=base) T
  have M_Tree_check_place:=zgc (P:=P) (w:=w) (base:=base) T
  have D_check_share:=zga (P:=P) (w:=w) (base:=base) T
  have M_Starts_put:=zkt (P:=P) (w:=w) (base:=base) T
  have M_Rounds_put:=zku (P:=P) (w:=w) (base:=base) T
  have K_Node:=zrr (P:=P) (w:=w) (base:=base) T
  have D_chooser_of:=zgt (P:=P) (w:=w) (base:=base) T
  refine T.me_Tree_put.okX (k:=6) zlq (fun vs H Q E h=>?_) (fun f cdv A outer s H vs Q E hr h=>?_)
  · obtain ⟨D,x,u,kd,s,rm,rfl,_⟩:=h
    rfl
  · obtain ⟨D,x,u,kd,s,rm,rfl,O,W,F,xl,hrm,kx,k⟩:=h
    refine ⟨_,(zae (ps_if (zhd (zjo (zaw D_is_name (hr.mono (by decide)) rfl passF (zaa (pv 1) zag)))) (zaf (zcz K rfl rfl zeo (zep T.ex_NoName T.kp_NoName rfl T.mg_NoName (zaa zaq zag)))) zas) (zae (ps_if (zgn (zmk (hu_of hr) (pv 1) (zcc (pv 0) rfl))) (zaf (zcz K rfl rfl zeo (zep T.ex_Taken T.kp_Taken rfl T.mg_Taken (zaa zaq zag)))) zas) (zae (ps_if (zgn (zft (hu_of hr) (pv 2) (zcc (pv 0) rfl))) (zaf (zcz K rfl rfl zeo (zep T.ex_NoClass T.kp_NoClass rfl T.mg_NoClass (zaa zaq zag)))) zas) (zae (zbj (zbf (dvs:=[]) M_Tree_check_place (by simp) T.cl_Tree (hr.mono (by decide)) passF (pv 0) (zaa (pv 2) (zaa (pv 3) zag)))) (zae (zbj (zaw D_check_share (hr.mono (by decide)) rfl passF (zaa (pv 4) zag))) (zae (ps_if (PW.pt (zdz (zap op_eq (pv 3) (zfb rfl T.mg_LEAF) (zar _)) (zdz (zap ziv (pv 5) zdy (zar _)) (zef (zap op_lt (pv 5) zai (zar _)))))) (zaf (zcz K rfl rfl zeo (zep T.ex_NoLength T.kp_NoLength rfl T.mg_NoLength (zaa zaq zag)))) zas) (zae (zbj (zpd (zbf (dvs:=[]) M_Starts_put (by simp) T.cl_Starts (hr.mono (by decide)) passF (zcc (zem (hu_of hr) (zcc (pv 0) rfl) (pv 2) (fun _ _=>rfl)) rfl) (zaa (pv 1) (zaa (pv 4) zag))) (zbf (dvs:=[]) M_Rounds_put (by simp) T.cl_Rounds (hr.mono (by decide)) passF (zcc (zem (hu_of hr) (zcc (pv 0) rfl) (pv 2) (fun _ _=>rfl)) rfl) (zaa (pv 1) (zaa (pv 4) zag))))) (zaf (zgh (hu_of hr) (zcc (pv 0) rfl) (pv 1) (zfa (dvs:=[]) K_Node (by simp) (hr.mono (by decide)) passF rfl T.mg_Node (zaa (pv 2) (zaa (zaw D_chooser_of (hr.mono (by decide)) rfl passF (zaa (pv 3) (zaa (zcc (pv 0) rfl) zag))) (zaa (pv 5) zag)))) rfl))))))))),?_⟩
    show tSeq _ _ _ [some (.ref D.p),some (.str x),some (.str u),some (.str kd),some (.int s),some rm] H
    refine zad fun R hR=>?_
    walk_at "rd"
    refine ⟨x,rfl,xl.2,fun H1 s1=>?_⟩
    by_cases c1:zcw x
    case neg =>
      rw [decide_eq_false c1]
      walk_at "rd"
      exact rs_of (kx _ (zhc c1) H1 s1) T.xc_NoName
    rw [decide_eq_true c1]
    walk_at "rd"
    refine hR _ _ ?_
    clear hR
    have O1:=O.same s1
    obtain ⟨dx,fs,hp,ft⟩:=O1.ex
    refine zad fun R hR=>?_
    walk_at "rd"
    refine zbh hp T.cl_Tree T.na_Tree_nodes ft.no ?_
    walk_at "rd"
    refine ⟨_,DGet.k (k:=Sum.inr x) O1.hn,?_⟩
    rw [zhn]
    cases hx:fndN D.ns x with
    | some v =>
      exact rs_of (kx _ (zfx c1 (by rw [hx]; simp)) H1 s1) T.xc_Taken
    | none =>
    refine hR _ _ ?_
    clear hR
    refine zad fun R hR=>?_
    walk_at "rd"
    refine zbh hp T.cl_Tree T.na_Tree_nodes ft.no ?_
    walk_at "rd"
    refine ⟨_,DGet.k (k:=Sum.inr u) O1.hn,?_⟩
    rw [zhn]
    cases hu:fndN D.ns u with
    | none =>
      exact rs_of (kx _ (zlp c1 hx hu) H1 s1) T.xc_NoClass
    | some un =>
    refine hR _ _ ?_
    clear hR
    obtain ⟨uin,une⟩:=zdp hu
    obtain ⟨ys,U,yl⟩:=W.up un uin
    rw [une] at U
    refine zad fun R hR=>?_
    walk_at "rd"
    refine zbp hp (ft.mis _ (by decide +kernel) (by decide +kernel) (by decide +kernel) (by decide +kernel) (by decide +kernel) (by decide +kernel)) ⟨D,u,kd,un,ys,rfl,O1,hu,U,by omega,fun H2 s2 bad=>?_,fun H2 s2 good=>hR _ _ ?_⟩
    · exact kx _ (zfy c1 hx hu fun q=>bad ⟨q.1,q.2.1,q.2.2 ys U⟩) H2 (s1.trans s2)
    clear hR
    have gd:kdOk kd/\un.ch≠none/\∀ ys,Up D.ns u ys->ys.length<=5:=⟨good.1,good.2.1,fun zs z=>by rw [<- U.det z]; exact good.2.2⟩
    refine zad fun R hR=>?_
    walk_at "rd"
    refine ⟨s,rfl,fun c3=>hR _ _ ?_,fun c3=>kx _ (zfz c1 hx hu gd c3) H2 (s1.trans s2)⟩
    clear hR
    have s12:=s1.trans s2
    have O2:=O.same s12
    clear hp ft dx fs O1 s1 s2
    refine zad fun R hR=>?_
    walk_at "rd"
    have post:¬ (kd=Str.ofString "leaf" /\ ∃ r:Int,rm = .int r/\r<0)->R [some (.ref D.p),some (.str x),some (.str u),some (.str kd),some (.int s),some rm] H2:=fun c4=>hR _ _ (by
      clear hR
      have k:=k (zjg c1 hx hu gd c3 c4)
      cases hc:un.ch with
      | none=>exact absurd hc gd.2.1
      | some c =>
      obtain ⟨dx,fs,hp,ft⟩:=O2.ex
      have N2:=O2.nd un uin
      obtain ⟨dn,fn,hnp,hft⟩:=N2.ex
      rw [hc] at hft
      have CS:=N2.ch c hc
      have cok:=W.cok un uin c hc
      have nx:shOf c.2.nm x=none:=by
        rw [Sw.sh_none,W.kid un uin c hc]
        intro z
        unfold kids at z
        obtain ⟨y,hy,e⟩:=List.mem_map.mp z
        exact fnd_none.mp hx (List.mem_map.mpr ⟨y,(List.mem_filter.mp hy).1,e⟩)
      have csz:=F.2 un uin c hc
      have fl:=F.1
      have kl:=W.kid_len uin hc
      obtain ⟨a,cs⟩:=c
      refine zad fun R hR=>?_
      have aft:∀ H3,Own a H2 H3->ChS c_Starts c_Rounds c_Members H3 a D.most (cs.put x s)->R [some (.ref D.p),some (.str x),some (.str u),some (.str kd),some (.int s),some rm] H3:=fun H3 ow C3=>hR _ _ (by
        clear hR
        have O3:=O2.chooser W.nn uin hc ow C3
        obtain ⟨d3,f3,hp3,ft3⟩:=O3.ex
        walk_at "rd"
        refine zbh hp3 T.cl_Tree T.na_Tree_most ft3.mo ?_
        walk_at "rd"
        have b3:∀ {b o},H b=some o->∃ o',H3 b=some o':=fun {b o} e=>by
          by_cases q:b∈five a
          · exact (C3.at q).imp fun _ z=>z.1
          · exact ⟨o,ow.deed _ _ q (s12 _ _ e)⟩
        have n3:∀ {b},H3 b=none->H b=none:=fun {b} e=>by
          cases z:H b with
          | none=>rfl
          | some o=>obtain ⟨o',z'⟩:=b3 z; rw [e] at z'; cases z'
        have hx3:fndN (setN D.ns { un with ch:=some (a,cs.put x s) }) x=none:=by
          rw [zpk]
          split
          · rw [hx]; rfl
          · exact hx
        have fin:∀ (cho:Option (At5×CSt)) (H4:Hp),Same H3 H4->(∀ c,cho=some c->ChS c_Starts c_Rounds c_Members H4 c.1 D.most c.2/\∀ b∈five c.1,H3 b=none)->(kd=Str.ofString "leaf" -> cho=none)->(Inner kd->∃ a,cho=some (a,CSt.new (kdB kd)))->∀ y dy,H4 y=none->H4 dy=none ->
            spNI c_Node [V.ref y,V.str u,chV cho,rm] (upd (upd H4 dy (.own y)) y (.ins c_Node dy [])) (fun v H2=>v=V.non/\rFld K (Str.ofString "nodes") (V.ref D.p) H2 fun x3 H2=>∃ a,x3=V.ref a/\∃ x4,DPut H2 a (V.str x) (V.ref y) x4/\Q V.non x4) (fun v d H'=>E v d H'):=fun cho H4 s4 hch klf kin y dy hy hdy=>by
          refine ⟨y,dy,.str u,chV cho,rm,rfl,zab,fun ql fs H5 bt hq h1 h2 h3=>⟨rfl,?_⟩⟩
          obtain ⟨s5,N5,fd5,q4⟩:=NdOk.new (C:=(⟨c_Node,c_Starts,c_Rounds,c_Members,c_Node,c_Tree⟩:Cl)) (m:=D.most) (nm:=x) (ab:=some u) hy hdy bt hq h1 h2 h3 fun c e=>(hch c e).1
          have O5:=O3.same (s4.trans s5)
          obtain ⟨d5,f5,hp5,ft5⟩:=O5.ex
          have no4:∀ {b},H4 b=none->H3 b=none:=fun {b} e=>by
            cases z:H3 b with
            | none=>rfl
            | some o=>rw [s4 _ _ z] at e; cases e
          have fr:∀ b∈ND.foot ⟨x,y,ql,some u,cho,rm,none,[],[]⟩,H3 b=none:=fun b hb=>by
            unfold ND.foot at hb
            rcases List.mem_cons.mp hb with z | hb
            · rw [z]; exact no4 hy
            rcases List.mem_cons.mp hb with z | hb
            · rw [z]; exact no4 q4
            rcases List.mem_append.mp hb with z | z
            · cases cho with
              | none=>cases z
              | some c=>exact (hch c rfl).2 b z
            · cases z
          refine zbh hp5 T.cl_Tree T.na_Tree_nodes ft5.no ?_
          refine ⟨_,rfl,_,DPut.k (k:=Sum.inr x) O5.hn (zeu (by rw [zso]; unfold setN; rw [List.length_map]; omega)),?_⟩
          have e5:=zsp (n:=⟨x,y,ql,some u,cho,rm,none,[],[]⟩) hx3
          rw [e5]
          refine k un (a,cs) ⟨x,y,ql,some u,cho,rm,none,[],[]⟩ _ hu hc rfl rfl rfl rfl rfl rfl klf kin (fun b hb=>n3 (fr b hb)) (O3.snoc (s4.trans s5) N5 fd5 fr) fun b o nb e=>?_
          rw [zah (fun z=>nb (by rw [z]; exact List.mem_cons_of_mem _ (List.mem_cons_self ..)))]
          refine s5 _ _ (s4 _ _ (ow.deed _ _ (fun z=>nb (TD.mem_node uin ?_)) (s12 _ _ e)))
          unfold ND.foot
          rw [hc]
          exact List.mem_cons_of_mem _ (List.mem_cons_of_mem _ (List.mem_append.mpr (.inl z)))
        refine ⟨kd,D.most,rfl,W.m1.1,fun ik a' H4 s4 na C4 y dy hy hdy _=>fin (some (a',CSt.new (kdB kd))) H4 s4 (fun c e=>?_) (fun e=>?_) (fun _=>⟨a',rfl⟩) y dy hy hdy,fun nk y dy hy hdy _=>fin none H3 (Same.refl _) (fun c e=>by cases e) (fun _=>rfl) (fun z=>absurd z nk) y dy hy hdy⟩
        · cases e; exact ⟨C4,na⟩
        · subst e
          exact absurd ik (by decide +kernel))
      clear hR
      walk_at "rd"
      cases cs with
      | st nm tg gs ck ch N =>
        refine .inl ?_
        walk_at "rd"
        refine zbh hp T.cl_Tree T.na_Tree_nodes ft.no ?_
        walk_at "rd"
        refine ⟨_,nd_at O2 hu,?_⟩
        refine zbh hnp T.cl_Node T.na_Node_chooser hft.ch ?_
        have S:Sx c_Starts c_Members H2 a D.most nm tg gs ck ch N:=CS
        obtain ⟨dx',fs',pr,hp',ft',hr'⟩:=S.ex
        refine zbp hp' (ft'.no _ (by decide +kernel) (by decide +kernel) (by decide +kernel) (by decide +kernel) (by decide +kernel) (by decide +kernel)) ⟨a,D.most,nm,tg,gs,ck,ch,N,x,s,rfl,S,?_,fun z=>absurd nx z,fun _ z=>absurd c3 z,fun _ _ H3 ow S'=>aft H3 ow S'⟩
        have:N<=4*D.ns.length:=csz
        omega
      | rd nm q rs tu ch =>
        refine .inr ?_
        walk_at "rd"
        refine zbh hp T.cl_Tree T.na_Tree_nodes ft.no ?_
        walk_at "rd"
        refine ⟨_,nd_at O2 hu,?_⟩
        refine zbh hnp T.cl_Node T.na_Node_chooser hft.ch ?_
        have S:Rx c_Rounds c_Members H2 a D.most nm q rs tu ch:=CS
        refine S.meth (by decide +kernel) ⟨a,D.most,nm,q,rs,tu,ch,x,s,rfl,S,cok.2,?_,fun z=>absurd nx z,fun _ z=>absurd c3 z,fun _ _ H3 ow S'=>aft H3 ow S'⟩
        have:nm.length<=D.ns.length:=kl
        omega)
    clear hR
    refine ite2 (fun c4=>ite2 (fun c5=>post fun q=>?_) fun c5=>?_) fun c4=>post fun q=>c4 q.1
    · obtain ⟨r,e,_⟩:=q.2
      rw [c5] at e; cases e
    · obtain ⟨r,e⟩:=hrm.resolve_left c5
      refine ⟨r,e,ite2 (fun c6=>rs_of (kx _ (zgl c1 hx hu gd c3 ⟨c4,r,e,c6⟩) H2 s12) T.xc_NoLength) fun c6=>post fun q=>?_⟩
      obtain ⟨r',e',h'⟩:=q.2
      rw [e] at e'; cases e'
      exact c6 h'
def spTW (cC:Addr) (C:Cl):Sp:=fun vs H Q E=>∃ (D:TD) (x:Str),vs = [.ref D.p,.str x]/\TrOk C H D/\D.Wf/\(x=road\/fndN D.ns x=none->Rs cC H E)/\(x≠road->∀ ys,Up D.ns x ys->∀ l H',Same H H'->H l=none->H' l=some (.lst (ys.reverse.tail.map V.str))->Q (.ref l) H')
theorem zit (T:Txt K mg c_WheelError c_NoName c_Taken c_NoClass c_NoPlace c_NoShare c_NoLength c_Members c_Chooser c_Starts c_Rounds c_Node c_Tree):MethD P w K mg base (CXX P w) 2 c_Tree "way" ["self", "name"] [[]] (spTW c_NoClass (⟨c_Node,c_Starts,c_Rounds,c_Members,c_Node,c_Tree⟩:Cl)):=by
 have M_Tree_check_class:=zeb (P:=P) (w:=w) (base:=base) T
 have M_Tree_from_road:=zer (P:=P) (w:=w) (base:=base) T
 refine T.me_Tree_way.okX (k:=1) zlr (fun vs H Q E h=>?_) (fun f cdv A outer s H vs Q E hr h=>?_)
 ·obtain ⟨D,x,rfl,_⟩:=h
  rfl
 ·obtain ⟨D,x,rfl,O,W,kx,k⟩:=h
  refine ⟨_,(zae (zbj (zbf (dvs:=[]) M_Tree_check_class (by simp) T.cl_Tree (hr.mono (by decide)) passF (pv 0) (zaa (pv 1) zag))) (zaf (zat (zfq (zfr K rfl) (zbf (dvs:=[]) M_Tree_from_road (by simp) T.cl_Tree (hr.mono (by decide)) passF (pv 0) (zaa (pv 1) zag)) (zgd zai) zix)))),?_⟩
  show tSeq _ _ _ [some (.ref D.p),some (.str x)] H
  obtain ⟨dx,fs,hp,ft⟩:=O.ex
  refine zad fun R hR=>?_
  walk_at "rd"
  refine zbp hp (ft.mis _ (by decide +kernel) (by decide +kernel) (by decide +kernel) (by decide +kernel) (by decide +kernel) (by decide +kernel)) ⟨D,x,rfl,O,fun c1 c2=>hR _ _ ?_,kx⟩
  cases hx:fndN D.ns x with
  | none=>exact absurd hx c2
  | some n =>
  obtain ⟨nin,ne⟩:=zdp hx
  obtain ⟨ys,U,yl⟩:=W.up n nin
  rw [ne] at U
  walk_at "rd"
  refine zbp hp (ft.mis _ (by decide +kernel) (by decide +kernel) (by decide +kernel) (by decide +kernel) (by decide +kernel) (by decide +kernel)) ⟨D,x,ys,rfl,O,U,by omega,fun l H1 s1 hl e=>?_⟩
  refine zke (.of e) fun l2 hl2=>?_
  have yp:=U.pos
  have ec:cutV (ys.reverse.map V.str) (some 1) none=(ys.reverse.map V.str).drop 1:=zmr _ 1 (by rw [List.length_map,List.length_reverse]; omega)
  rw [ec]
  refine k c1 ys U l2 _ (s1.trans (zak hl2)) ?_ ?_
  ·cases z:H l2 with
   | none=>rfl
   | some o=>rw [s1 _ _ z] at hl2; cases hl2
  ·rw [zab,List.drop_one,List.map_tail]
def spTB (cC:Addr) (C:Cl):Sp:=fun vs H Q E=>∃ (D:TD) (x:Str),vs = [.ref D.p,.str x]/\TrOk C H D/\D.Wf/\(fndN D.ns x=none->Rs cC H E)/\(fndN D.ns x≠none->∀ l H',Same H H'->H l=none->H' l=some (.lst ((kids D.ns x).map V.str))->Q (.ref l) H')
theorem zex (T:Txt K mg c_WheelError c_NoName c_Taken c_NoClass c_NoPlace c_NoShare c_NoLength c_Members c_Chooser c_Starts c_Rounds c_Node c_Tree):MethD P w K mg base (CXX P w) 3 c_Tree "below" ["self", "name"] [[]] (spTB c_NoClass (⟨c_Node,c_Starts,c_Rounds,c_Members,c_Node,c_Tree⟩:Cl)):=by
 have M_Tree_check_class:=zeb (P:=P) (w:=w) (base:=base) T
 have M_Starts_names:=zid (P:=P) (w:=w) (base:=base) T
 have M_Rounds_names:=zig (P:=P) (w:=w) (base:=base) T
 refine T.me_Tree_below.okX (k:=2) sc_Tree_below (fun vs H Q E h=>?_) (fun f cdv A outer s H vs Q E hr h=>?_)
 ·obtain ⟨D,x,rfl,_⟩:=h
  rfl
 ·obtain ⟨D,x,rfl,O,W,kx,k⟩:=h
  refine ⟨_,(zae (ps_if (zap op_ne (pv 1) (zfb rfl T.mg_ROAD) (zar _)) (zaf (zbj (zbf (dvs:=[]) M_Tree_check_class (by simp) T.cl_Tree (hr.mono (by decide)) passF (pv 0) (zaa (pv 1) zag)))) zas) (zae (zau (i:=2) sc_Tree_below.nd rfl (by first|left;rfl|right;rfl) (zcc (zem (hu_of hr) (zcc (pv 0) rfl) (pv 1) (fun _ _=>rfl)) rfl)) (zaf (zat (zlv (zap zre (pv 2) zdy (zar _)) (zdg zag) (zpd (zfs (dvs:=[]) M_Starts_names (by simp) T.cl_Starts (hr.mono (by decide)) passF (pv 2)) (zfs (dvs:=[]) M_Rounds_names (by simp) T.cl_Rounds (hr.mono (by decide)) passF (pv 2)))))))),?_⟩
  show tSeq _ _ _ [some (.ref D.p),some (.str x),none] H
  obtain ⟨dx,fs,hp,ft⟩:=O.ex
  refine zad fun R hR=>?_
  have post:fndN D.ns x≠none->R [some (.ref D.p),some (.str x),none] H:=fun hx=>hR _ _ (by
   clear hR
   cases hn:fndN D.ns x with
   | none=>exact absurd hn hx
   | some n =>
   obtain ⟨nin,ne⟩:=zdp hn
   have N:=O.nd n nin
   obtain ⟨dn,fn,hnp,hft⟩:=N.ex
   have k:=k hx
   refine zad fun R hR=>?_
   walk_at "rd"
   refine zbh hp T.cl_Tree T.na_Tree_nodes ft.no ?_
   walk_at "rd"
   refine ⟨_,nd_at O hn,?_⟩
   refine zbh hnp T.cl_Node T.na_Node_chooser hft.ch (hR _ _ ?_)
   clear hR
   walk_at "rd"
   cases hc:n.ch with
   | none =>
    refine ite2 (fun _=>?_) fun z=>absurd rfl z
    intro l hl
    refine k l _ (zak hl) hl ?_
    rw [zab,<- ne,W.lf n nin hc]; rfl
   | some c =>
    refine ite2 (fun z=>by cases z) fun _=>?_
    have CS:=N.ch c hc
    have kd:=W.kid n nin c hc
    have fin:∀ l,H l=none->Q (.ref l) (upd H l (.lst (nmV c.2.nm))):=fun l hl=>by
     refine k l _ (zak hl) hl ?_
     rw [zab,<- ne,<- kd,List.map_map]; rfl
    obtain ⟨a,cs⟩:=c
    cases cs with
    | st nm tg gs ck ch N =>
     refine .inl ?_
     walk_at "rd"
     have S:Sx c_Starts c_Members H a D.most nm tg gs ck ch N:=CS
     obtain ⟨dx',fs',pr,hp',ft',hr'⟩:=S.ex
     exact zbp hp' (ft'.no _ (by decide +kernel) (by decide +kernel) (by decide +kernel) (by decide +kernel) (by decide +kernel) (by decide +kernel)) ⟨a,D.most,nm,tg,gs,ck,ch,N,rfl,S,fin⟩
    | rd nm q rs tu ch =>
     refine .inr ?_
     walk_at "rd"
     have S:Rx c_Rounds c_Members H a D.most nm q rs tu ch:=CS
     exact S.meth (by decide +kernel) ⟨a,D.most,nm,q,rs,tu,ch,rfl,S,fin⟩)
  clear hR
  walk_at "rd"
  refine ite2 (fun c1=>post ?_) fun c1=>?_
  ·subst c1
   obtain ⟨n,hn,_⟩:=W.rdN
   show fndN D.ns road≠none
   rw [hn]; simp
  ·exact zbp hp (ft.mis _ (by decide +kernel) (by decide +kernel) (by decide +kernel) (by decide +kernel) (by decide +kernel) (by decide +kernel)) ⟨D,x,rfl,O,fun _ c2=>post c2,fun q=>kx (q.resolve_left c1)⟩
def spTI (cL cP:Addr) (C:Cl):Sp:=fun vs H Q E=>∃ (x dx:Addr) (m:Int) (kd:Str),vs = [.ref x,.int m,.str kd]/\H x=some (.ins C.t dx [])/\(¬ (1<=m/\m<=1000000)->Rs cL H E)/\(1<=m/\m<=1000000->¬ Inner kd->Rs cP H E) /\
 (1<=m/\m<=1000000->Inner kd->∀ (pn pg:Addr) (n:ND) (a:At5) H',n = ⟨road,n.p,n.ql,none,some (a,CSt.new (kdB kd)),.non,none,[],[]⟩->But x H H'->(∀ b∈TD.foot ⟨x,pn,pg,m,0,0,0,[n],[],[]⟩,b=x\/H b=none)->TrOk C H' ⟨x,pn,pg,m,0,0,0,[n],[],[]⟩->Q .non H')
theorem zui (T:Txt K mg c_WheelError c_NoName c_Taken c_NoClass c_NoPlace c_NoShare c_NoLength c_Members c_Chooser c_Starts c_Rounds c_Node c_Tree):MkD P w K mg base (CXX P w) 7 c_Tree ["self", "most", "kind"] [[],[V.str (Str.ofString "starts")]] (spTI c_NoLength c_NoPlace (⟨c_Node,c_Starts,c_Rounds,c_Members,c_Node,c_Tree⟩:Cl)):=by
 have D_check_most:=zkv (P:=P) (w:=w) (base:=base) T
 have D_chooser_of:=zgt (P:=P) (w:=w) (base:=base) T
 have K_Node:=zrr (P:=P) (w:=w) (base:=base) T
 refine T.in_Tree.okX (k:=6) zkr (fun vs H Q E h=>?_) (fun f cdv A outer s H vs Q E hr h=>?_)
 ·obtain ⟨x,dx,m,kd,rfl,_⟩:=h
  rfl
 ·obtain ⟨x,dx,m,kd,rfl,hx,kl,kp,k⟩:=h
  obtain ⟨t_INNER_KINDS,h_INNER_KINDS,w_INNER_KINDS⟩:=T.mg_INNER_KINDS
  refine ⟨_,(zae (zbj (zaw D_check_most (hr.mono (by decide)) rfl passF (zaa (pv 1) zag))) (zae (ps_if (zap (zhl K rfl) (pv 2) (zee (v:=.ref t_INNER_KINDS) rfl h_INNER_KINDS rfl) rfl) (zaf (zcz K rfl rfl zeo (zep T.ex_NoPlace T.kp_NoPlace rfl T.mg_NoPlace (zaa zaq zag)))) zas) (zae (zcj (pv 0) (pv 1) rfl) (zae (zcj (pv 0) (zsg (zqm (zfb rfl T.mg_ROAD) (zfa (dvs:=[V.non]) K_Node (by simp) (hr.mono (by decide)) passF rfl T.mg_Node (zaa zdy (zaa (zaw D_chooser_of (hr.mono (by decide)) rfl passF (zaa (pv 2) (zaa (pv 1) zag))) zag))) zsf) rfl rfl (by intro z; cases z) (by decide)) rfl) (zae (zcj (pv 0) zai rfl) (zae (zcj (pv 0) zai rfl) (zae (zcj (pv 0) zai rfl) (zaf (zcj (pv 0) (zdg zag) rfl))))))))),?_⟩
  show tSeq _ _ _ [some (.ref x),some (.int m),some (.str kd)] H
  refine zad fun R hR=>?_
  walk_at "rd"
  refine ⟨m,rfl,fun c1=>hR _ _ ?_,kl⟩
  clear hR
  refine zad fun R hR=>?_
  walk_at "rd"
  refine ⟨_,_,rfl,.inr (w_INNER_KINDS H),rfl,rfl,_,rfl,?_⟩
  rw [zmp,if_pos rfl]
  by_cases c2:Inner kd
  case neg =>
   rw [if_pos (by simp [c2])]
   exact rs_of (kp c1 c2) T.xc_NoPlace
  rw [if_neg (by simp [c2])]
  refine hR _ _ ?_
  clear hR
  have k:=k c1 c2
  have l1:=zal (fs:=[]) (f := "most") (v:=.int m)
  simp only [List.length_nil] at l1
  refine zad fun R hR=>?_
  walk_at "rd"
  refine zck hx T.cl_Tree T.na_Tree_most (by simp) (hR _ _ ?_)
  clear hR
  have h1:upd H x (.ins c_Tree dx (putF "most" (.int m) [])) x=some (.ins c_Tree dx (putF "most" (.int m) [])):=zab
  have b1:But x H (upd H x (.ins c_Tree dx (putF "most" (.int m) []))):=zgg
  have n1:∀ {b},upd H x (.ins c_Tree dx (putF "most" (.int m) [])) b=none->H b=none:=fun {b} e=>by
   by_cases z:b=x
   ·rw [z,zab] at e; cases e
   ·rw [zah z] at e; exact e
  show tSeq _ _ _ _ (upd H x (.ins c_Tree dx (putF "most" (.int m) [])))
  generalize upd H x (.ins c_Tree dx (putF "most" (.int m) []))=H1 at h1 b1 n1 ⊢
  refine zad fun R hR=>?_
  walk_at "rd"
  unfold tDisp
  intro pn hpn
  unfold zkk zkk
  walk_at "rd"
  have s2:=zak (o:=.dK []) hpn
  have h2:upd H1 pn (.dK []) pn=some (.dK []):=zab
  generalize upd H1 pn (.dK [])=H2 at s2 h2 ⊢
  refine ⟨kd,m,rfl,c1.1,fun _ a H3 s3 na C3 y dy hy hdy _=>?_,fun z=>absurd c2 z⟩
  refine ⟨y,dy,.non,.ref a.p,.non,rfl,zab,fun ql fs H4 bt hq h4 f4 q4=>⟨rfl,?_⟩⟩
  obtain ⟨s4,N4,fd4,q3⟩:=NdOk.new (C:=(⟨c_Node,c_Starts,c_Rounds,c_Members,c_Node,c_Tree⟩:Cl)) (m:=m) (nm:=road) (ab:=none) (ch:=some (a,CSt.new (kdB kd))) (rm:=.non) hy hdy bt hq h4 f4 q4 fun c e=>by cases e; exact C3
  refine ⟨s4 _ _ (s3 _ _ h2),[((Sum.inr road:Key),V.ref y)],rfl,by simp,?_⟩
  have fr2:∀ b∈ND.foot ⟨road,y,ql,none,some (a,CSt.new (kdB kd)),.non,none,[],[]⟩,H2 b=none:=fun b hb=>by
   have no3:∀ {b},H3 b=none->H2 b=none:=fun {b} e=>by
    cases z:H2 b with
    | none=>rfl
    | some o=>rw [s3 _ _ z] at e; cases e
   unfold ND.foot at hb
   rcases List.mem_cons.mp hb with z | hb
   ·rw [z]; exact no3 hy
   rcases List.mem_cons.mp hb with z | hb
   ·rw [z]; exact no3 q3
   rcases List.mem_append.mp hb with z | z
   ·exact na b z
   ·cases z
  have s14:Same H1 H4:=s2.trans (s3.trans s4)
  have no2:∀ {b},H2 b=none->H1 b=none:=fun {b} e=>by
   cases z:H1 b with
   | none=>rfl
   | some o=>rw [s2 _ _ z] at e; cases e
  have xpn:x≠pn:=zan h1 hpn
  have h5:upd H4 pn (.dK (zfe [] [((Sum.inr road:Key),V.ref y)])) pn=some (.dK (ndK [⟨road,y,ql,none,some (a,CSt.new (kdB kd)),.non,none,[],[]⟩])):=zab
  have x5:upd H4 pn (.dK (zfe [] [((Sum.inr road:Key),V.ref y)])) x=some (.ins c_Tree dx (putF "most" (.int m) [])):=by rw [zah xpn]; exact s14 _ _ h1
  have k5:∀ b o,b≠pn->H4 b=some o->upd H4 pn (.dK (zfe [] [((Sum.inr road:Key),V.ref y)])) b=some o:=fun b o q e=>by rw [zah q]; exact e
  have o5:∀ b,upd H4 pn (.dK (zfe [] [((Sum.inr road:Key),V.ref y)])) b=none->H4 b=none:=fun b e=>by
   by_cases z:b=pn
   ·rw [z,zab] at e; cases e
   ·rw [zah z] at e; exact e
  have pn4:=s4 _ _ (s3 _ _ h2)
  generalize upd H4 pn (.dK (zfe [] [((Sum.inr road:Key),V.ref y)]))=H5 at h5 x5 k5 o5 ⊢
  have l2:=zal (fs:=putF "most" (.int m) []) (f := "nodes") (v:=.ref pn)
  have l3:=zal (fs:=putF "nodes" (.ref pn) (putF "most" (.int m) [])) (f := "time") (v:=.int 0)
  have l4:=zal (fs:=putF "time" (.int 0) (putF "nodes" (.ref pn) (putF "most" (.int m) []))) (f := "free") (v:=.int 0)
  have l5:=zal (fs:=putF "free" (.int 0) (putF "time" (.int 0) (putF "nodes" (.ref pn) (putF "most" (.int m) [])))) (f := "counted") (v:=.int 0)
  refine zck x5 T.cl_Tree T.na_Tree_nodes (by omega) (hR _ _ ?_)
  clear hR
  refine zad fun R hR=>?_
  walk_at "rd"
  refine zck zab T.cl_Tree T.na_Tree_time (by omega) (hR _ _ ?_)
  clear hR
  rw [zec]
  refine zad fun R hR=>?_
  walk_at "rd"
  refine zck zab T.cl_Tree T.na_Tree_free (by omega) (hR _ _ ?_)
  clear hR
  rw [zec]
  refine zad fun R hR=>?_
  walk_at "rd"
  refine zck zab T.cl_Tree T.na_Tree_counted (by omega) (hR _ _ ?_)
  clear hR
  rw [zec]
  walk_at "rd"
  intro pg hpg
  have xg:pg≠x:=fun z=>by rw [z,zab] at hpg; cases hpg
  have g5:H5 pg=none:=by rw [zah xg] at hpg; exact hpg
  have g4:=o5 _ g5
  have ng:pn≠pg:=zan pn4 g4
  refine zck (by rw [zah (Ne.symm xg),zab]) T.cl_Tree T.na_Tree_gone (by omega) ?_
  have kp:∀ {b o},b≠x->b≠pg->H5 b=some o->upd (upd (upd H5 x (.ins c_Tree dx (putF "counted" (.int 0) (putF "free" (.int 0) (putF "time" (.int 0) (putF "nodes" (.ref pn) (putF "most" (.int m) []))))))) pg (.lst [])) x (.ins c_Tree dx (putF "gone" (.ref pg) (putF "counted" (.int 0) (putF "free" (.int 0) (putF "time" (.int 0) (putF "nodes" (.ref pn) (putF "most" (.int m) []))))))) b=some o:=fun {b o} q1 q2 e=>by rw [zah q1,zah q2,zah q1]; exact e
  have hg:upd (upd (upd H5 x (.ins c_Tree dx (putF "counted" (.int 0) (putF "free" (.int 0) (putF "time" (.int 0) (putF "nodes" (.ref pn) (putF "most" (.int m) []))))))) pg (.lst [])) x (.ins c_Tree dx (putF "gone" (.ref pg) (putF "counted" (.int 0) (putF "free" (.int 0) (putF "time" (.int 0) (putF "nodes" (.ref pn) (putF "most" (.int m) []))))))) pg=some (.lst []):=by rw [zah xg,zab]
  have hf:upd (upd (upd H5 x (.ins c_Tree dx (putF "counted" (.int 0) (putF "free" (.int 0) (putF "time" (.int 0) (putF "nodes" (.ref pn) (putF "most" (.int m) []))))))) pg (.lst [])) x (.ins c_Tree dx (putF "gone" (.ref pg) (putF "counted" (.int 0) (putF "free" (.int 0) (putF "time" (.int 0) (putF "nodes" (.ref pn) (putF "most" (.int m) []))))))) x=some (.ins c_Tree dx (putF "gone" (.ref pg) (putF "counted" (.int 0) (putF "free" (.int 0) (putF "time" (.int 0) (putF "nodes" (.ref pn) (putF "most" (.int m) []))))))):=zab
  generalize upd (upd (upd H5 x (.ins c_Tree dx (putF "counted" (.int 0) (putF "free" (.int 0) (putF "time" (.int 0) (putF "nodes" (.ref pn) (putF "most" (.int m) []))))))) pg (.lst [])) x (.ins c_Tree dx (putF "gone" (.ref pg) (putF "counted" (.int 0) (putF "free" (.int 0) (putF "time" (.int 0) (putF "nodes" (.ref pn) (putF "most" (.int m) [])))))))=Hf at kp hg hf ⊢
  have bx:∀ {b},H2 b=none->b≠x:=fun {b} e z=>by rw [z,s2 _ _ h1] at e; cases e
  have bn:∀ {b},H2 b=none->b≠pn:=fun {b} e z=>by rw [z,h2] at e; cases e
  have k4:∀ {b o},b≠x->b≠pn->H4 b=some o->Hf b=some o:=fun {b o} q1 q2 e=>kp q1 (zan e g4) (k5 b o q2 e)
  refine k pn pg ⟨road,y,ql,none,some (a,CSt.new (kdB kd)),.non,none,[],[]⟩ a Hf rfl (fun b o nb e=>?_) (fun b hb=>?_) ⟨⟨dx,_,hf,FTr.mk0 ..⟩,kp xpn.symm ng h5,fun z hz=>?_,hg,.nil,?_⟩
  ·have e1:=b1 b o nb e
   exact k4 nb (zan e1 hpn) (s14 _ _ e1)
  ·unfold TD.foot at hb
   rcases List.mem_cons.mp hb with z | hb
   ·exact .inl z
   rcases List.mem_cons.mp hb with z | hb
   ·rw [z]; exact .inr (n1 hpn)
   rcases List.mem_cons.mp hb with z | hb
   ·rw [z]
    refine .inr (n1 ?_)
    cases z:H1 pg with
    | none=>rfl
    | some o=>rw [s14 _ _ z] at g4; cases g4
   obtain ⟨w,hw,z⟩:=List.mem_flatMap.mp hb
   rw [List.mem_singleton.mp hw] at z
   exact .inr (n1 (no2 (fr2 b z)))
  ·rw [List.mem_singleton.mp hz]
   refine N4.keep fun b o hb e=>?_
   rcases hb with q | ⟨xs,q⟩
   ·exact k4 (bx (fr2 b q)) (bn (fr2 b q)) e
   ·exact k4 (fun w=>by rw [w,s14 _ _ h1] at q; cases q) (fun w=>by rw [w,pn4] at q; cases q) e
  ·show (x :: pn :: pg :: ([⟨road,y,ql,none,some (a,CSt.new (kdB kd)),.non,none,[],[]⟩]:List ND).flatMap ND.foot).Nodup
   rw [List.flatMap_cons,List.flatMap_nil,List.append_nil]
   simp only [List.nodup_cons,List.mem_cons,not_or]
   refine ⟨⟨xpn,Ne.symm xg,fun z=>bx (fr2 _ z) rfl⟩,⟨ng,fun z=>bn (fr2 _ z) rfl⟩,fun z=>?_,fd4⟩
   obtain ⟨o,ho,_⟩:=N4.at z
   rw [g4] at ho; cases ho
theorem StOk.nil:StOk 0 (Str.ofString ""):=⟨by decide +kernel,by decide +kernel⟩
theorem zsx {zs:List Str} (h:∀ z∈zs,StOk 1 z):StOk zs.length (Txt.join (Str.ofString "") zs):=by
 refine ⟨?_,?_⟩
 ·rw [ok_iff]
  intro c hc
  rw [Sw.join_eq] at hc
  rcases (PyProof.Rows.mem_join _ c zs).mp hc with ⟨t,ht,hc⟩ | ⟨_,hc⟩
  ·exact (ok_iff.mp (h t ht).1) c hc
  ·exact (ok_iff.mp StOk.nil.1) c hc
 ·have:=Sw.join_len (sep:=Str.ofString "") (zs:=zs) (m:=1) fun z hz=>(h z hz).2
  have e:(Str.ofString "").length = 0:=by decide +kernel
  rw [e] at this
  omega
def zuj:Sp:=fun vs H Q _=>∃ (l:Addr) (xs:List Int) (n:Nat),vs = [.ref l,.int n]/\H l=some (.lst (xs.map V.int))/\n<=xs.length/\n<=50/\∀ z H',Same H H'->StOk n z->Q (.str z) H'
theorem zhv (T:Txt K mg c_WheelError c_NoName c_Taken c_NoClass c_NoPlace c_NoShare c_NoLength c_Members c_Chooser c_Starts c_Rounds c_Node c_Tree):Def P w K mg base (CXX P w) 1 "_law_word" ["_law_xs", "_law_size"] zuj:=by
 refine T.src__law_word.okN (k:=0) sc__law_word (fun vs H Q E h=>?_) (fun f cdv A outer s H vs Q E hr h=>?_)
 ·obtain ⟨l,xs,n,rfl,_⟩:=h
  rfl
 ·obtain ⟨l,xs,n,rfl,hl,nl,n50,k⟩:=h
  refine ⟨_,(zae (zau (i:=2) sc__law_word.nd rfl (by first|left;rfl|right;rfl) zaq) (zaf (zat (pe_bm PySem.F.plainAttrs_str PySem.F.slot_str_join PySem.F.type_str_join (zsl K) zaq (zaa (pe_lc ["_law_k"] [("_law_signs", 2),("_law_xs", 0)] rfl (by with_unfolding_all rfl) (by decide +kernel) rfl (by decide +kernel) (by exact ⟨rfl,⟨rfl,True.intro⟩⟩) (by with_unfolding_all rfl) ⟨⟨rfl,rfl,rfl⟩,⟨⟨rfl,rfl,rfl⟩,True.intro⟩⟩ (zjp rfl T.no_range (zaa (pv 1) zag)) (fun _ _ _=>(zdu (i:=0) (show (["_law_k", "_law_signs", "_law_xs"]:List Str).Nodup from by decide +kernel) rfl (by first|left;rfl|right;rfl))) (fun _ _ _=>zmb) (fun _ _ _=>(pe_ix ztl (pv 1) (pe_op zcu (pe_ix (zav K rfl) (pv 2) (pv 0) (fun _ _=>rfl)) zai) (fun _ _=>rfl)))) zag))))),?_⟩
  show tSeq _ _ _ [some (.ref l),some (.int n),none] H
  refine zad fun R hR=>?_
  walk_at "rd"
  refine hR _ _ ?_
  clear hR
  walk_at "rd"
  refine ⟨rfl,by omega,by omega,fun D hD=>?_⟩
  show CompG _ _ _ _ D [none,some (.str _),some (.ref l)] _ _
  rw [show ((n:Nat):Int).toNat=n from Int.toNat_natCast n]
  refine znf (fun i τ H'=>(∃ v,τ = [v,some (.str (Str.ofString "abcdefghijklmnopqrstuvwxyz")),some (.ref l)])/\Same H H'/\∃ zs:List Str,H' D=some (.lst (zs.map V.str))/\zs.length=i/\∀ z∈zs,StOk 1 z) ⟨⟨none,rfl⟩,zak hD,[],zab,rfl,fun x h=>absurd h List.not_mem_nil⟩ ?_ ?_
  ·rintro i τ H' hi ⟨⟨v,rfl⟩,s',zs,hDl,lz,az⟩
   walk_at "rd"
   simp only [tYes,if_true]
   walk_at "rd"
   have e:=zes (xs:=xs.map V.int) (j:=i) (v:=V.int (xs[i]'(by omega))) (by simp)
   rw [Int.zero_add]
   refine zgr (.of (s' _ _ hl)) e ⟨_,rfl,?_⟩
   generalize xs[i]'(by omega)=y
   have n0:=Int.emod_nonneg y (show (26:Int)≠0 by decide)
   have n1:=Int.emod_lt_of_pos y (show (0:Int)<26 by decide)
   refine zss _ (by decide +kernel) n0 (Int.lt_of_lt_of_le n1 (by decide +kernel)) (by decide +kernel) fun z hz _=>?_
   refine ⟨_,hDl,zeu (by rw [List.length_map]; omega),fun b o e=>?_,zs++[z],?_,?_,fun y hy=>?_⟩
   ·rw [zah (zan e hD)]; exact s' _ _ e
   ·rw [zab,List.map_append]; rfl
   ·rw [List.length_append,lz]; rfl
   ·rcases List.mem_append.mp hy with y1 | y1
    ·exact az y y1
    ·have:y=z:=by simpa using y1
     rw [this]; exact hz
  ·rintro τ H1 ⟨_,s1,zs,hDl,lz,az⟩
   refine ⟨_,D,zs,rfl,rfl,hDl,Sw.join_ok (m:=1) (fun z hz=>(az z hz).2) (by decide) (by omega) (by decide +kernel),k _ _ s1 ?_⟩
   rw [<- lz]; exact zsx az
def odds:List Str:=[Str.ofString "", Str.ofString "road", Str.ofString "A", Str.ofString "a b", Str.ofString "abcdefghi", Str.ofString "ab1", Str.ofString "z_", Str.ofString " a", Str.ofString "roads", Str.ofString "a.", Str.ofString "bcA", Str.ofString "zzzzzzzz", Str.ofString "{", Str.ofString "`"]
theorem zsy:∀ z∈odds,PyData.strOk z=true/\z.length<=9:=by decide +kernel
def zsz:Sp:=fun vs H Q _=>∃ (l kl:Addr) (xs:List Int) (ks:List Str),vs = [.ref l,.ref kl]/\H l=some (.lst (xs.map V.int))/\xs.length = 16/\(∀ x∈xs,0<=x)/\H kl=some (.lst (ks.map V.str))/\(∀ z∈ks,StOk 8 z)/\ks.length<=60/\∀ z H',Same H H'->StOk 9 z->Q (.str z) H'
theorem zls (T:Txt K mg c_WheelError c_NoName c_Taken c_NoClass c_NoPlace c_NoShare c_NoLength c_Members c_Chooser c_Starts c_Rounds c_Node c_Tree):Def P w K mg base (CXX P w) 2 "_law_name" ["_law_xs", "_law_known"] zsz:=by
 have D__law_word:=zhv (P:=P) (w:=w) (base:=base) T
 refine T.src__law_name.okN (k:=1) sc__law_name (fun vs H Q E h=>?_) (fun f cdv A outer s H vs Q E hr h=>?_)
 ·obtain ⟨l,kl,xs,ks,rfl,_⟩:=h
  rfl
 ·obtain ⟨l,kl,xs,ks,rfl,hl,lx,px,hk,ok,kle,k⟩:=h
  refine ex_x ⟨_,(zbg (zcv (zau (i:=2) sc__law_name.nd rfl (by first|left;rfl|right;rfl) (pe_op zcu (pe_ix (zav K rfl) (pv 0) zai (fun _ _=>rfl)) zai))) (zbg (zcv (zau (i:=3) sc__law_name.nd rfl (by first|left;rfl|right;rfl) (zaw D__law_word (hr.mono (by decide)) rfl passN (zaa (pv 0) (zaa (pe_op zeg zai (pe_op zcu (pe_ix (zav K rfl) (pv 0) zai (fun _ _=>rfl)) zai)) zag))))) (zbg (zcv (ps_if (PW.pt (zdz (zap (zet K rfl hr.units) (pv 1) (zdg zag) (zar _)) (zef (zap op_eq (pv 2) zai (zar _))))) (zaf (zau (i:=3) sc__law_name.nd rfl (by first|left;rfl|right;rfl) (pe_ix (zav K rfl) (pv 1) (pe_op zcu (pe_ix (zav K rfl) (pv 0) zai (fun _ _=>rfl)) (zbi (zdv K rfl) rfl T.no_len boot_len (zaa (pv 1) zag))) (fun _ _=>rfl)))) zas)) (zbg (zcv (ps_if (PW.pt (zdz (zap (zet K rfl hr.units) (pv 1) (zdg zag) (zar _)) (zef (zap op_eq (pv 2) zai (zar _))))) (zaf (zau (i:=3) sc__law_name.nd rfl (by first|left;rfl|right;rfl) (pe_op zmv (pe_ix (zav K rfl) (pv 1) (pe_op zcu (pe_ix (zav K rfl) (pv 0) zai (fun _ _=>rfl)) (zbi (zdv K rfl) rfl T.no_len boot_len (zaa (pv 1) zag))) (fun _ _=>rfl)) (zaw D__law_word (hr.mono (by decide)) rfl passN (zaa (pv 0) (zaa zai zag)))))) zas)) (zbg (zud (zap op_eq (pv 2) zai (zar _)) (zbg (zpg (i:=4) sc__law_name.nd rfl (by first|left;rfl|right;rfl) (zpf (zcm (zcm (zcm (zcm (zcm (zcm (zcm (zcm (zcm (zcm (zcm (zcm (zcm (zcm zrq)))))))))))))))) (zjf (zcv (zau (i:=3) sc__law_name.nd rfl (by first|left;rfl|right;rfl) (pe_ix (zav K rfl) (pv 4) (pe_op zcu (pe_ix (zav K rfl) (pv 0) zai (fun _ _=>rfl)) (zbi (zdv K rfl) rfl T.no_len boot_len (zaa (pv 4) zag))) (fun _ _=>rfl)))))) zas) (zjf (zcv (zat (pv 3))))))))),?_⟩
  show tSeq _ _ _ [some (.ref l),some (.ref kl),none,none,none] H
  refine zad fun R hR=>?_
  walk_at "rd"
  refine ixNum 9 hl (by omega) fun y9 m9=>⟨_,rfl,hR _ _ ?_⟩
  clear hR
  generalize y9 % 8=way
  refine zad fun R hR=>?_
  walk_at "rd"
  refine ixNum 8 hl (by omega) fun y8 m8=>⟨_,rfl,?_⟩
  have n0:=Int.emod_nonneg y8 (show (8:Int)≠0 by decide)
  have n1:=Int.emod_lt_of_pos y8 (show (0:Int)<8 by decide)
  refine ⟨l,xs,(1+y8 % 8).toNat,by rw [Int.toNat_of_nonneg (by omega)],hl,by omega,by omega,fun z0 H1 s1 o0=>hR _ _ ?_⟩
  clear hR
  have o0:StOk 9 z0:=o0.mono (by omega)
  have hl:=s1 _ _ hl
  have hk:=s1 _ _ hk
  have k:∀ z H',Same H1 H'->StOk 9 z->Q (.str z) H':=fun z H' s o=>k z H' (s1.trans s) o
  clear s1
  have okw:∀ z∈ks,PyData.strOk z=true:=fun z hz=>(ok z hz).1
  have ix0:∀ {H2:Hp} {Z:VK},Same H1 H2->ks≠[]->(∀ z∈ks,Z (.str z) H2)->∀ y∈xs,rIxL K (.ref kl) (.int (y % (ks.length:Int))) H2 Z:=fun {H2 Z} s2 nk z y hy=>by
   have:0<ks.length:=List.length_pos_iff.mpr nk
   exact ixW (s2 _ _ hk) (Int.emod_nonneg _ (by omega)) (Int.emod_lt_of_pos _ (by omega)) z
  refine zad fun R hR=>?_
  walk_at "rd"
  intro p1 f1
  refine zpl (zak f1 _ _ hk) okw zab ?_
  have s2:=zak (o:=.lst []) f1
  generalize upd H1 p1 (.lst [])=H2 at s2 ⊢
  have st2:∀ z H',Same H1 H'->StOk 9 z->R [some (.ref l),some (.ref kl),some (.int way),some (.str z),none] H':=fun z H3 s3 oz=>hR _ _ (by
   clear hR
   refine zad fun R hR=>?_
   walk_at "rd"
   intro p1 f1
   refine zpl (zak f1 _ _ (s3 _ _ hk)) okw zab ?_
   have s4:=s3.trans (zak (o:=.lst []) f1)
   generalize upd H3 p1 (.lst [])=H4 at s4 ⊢
   have st3:∀ z H',Same H1 H'->StOk 9 z->R [some (.ref l),some (.ref kl),some (.int way),some (.str z),none] H':=fun z H5 s5 oz=>hR _ _ (by
    clear hR
    refine zad fun R hR=>?_
    refine zmq fun G hG=>?_
    walk_at "rd"
    refine ite2 (fun _=>hG _ _ ?_) fun _=>hR _ _ ?_
    ·clear hG
     refine zad fun S hS=>?_
     walk_at "rd"
     intro p2 f2
     refine hS _ _ ?_
     clear hS
     have s6:=s5.trans (zak (o:=.lst (odds.map V.str)) f2)
     have h6:upd H5 p2 (.lst (odds.map V.str)) p2=some (.lst (odds.map V.str)):=zab
     refine (show tAsg _ _ _ [some (.ref l),some (.ref kl),some (.int way),some (.str z),some (.ref p2)] (upd H5 p2 (.lst (odds.map V.str))) from ?_)
     generalize upd H5 p2 (.lst (odds.map V.str))=H6 at s6 h6 ⊢
     walk_at "rd"
     refine ixNum 0 (s6 _ _ hl) (by omega) fun y hy=>zil (.of h6) ⟨_,rfl,_,rfl,?_,?_⟩
     ·rw [List.length_map]; decide
     ·refine ixW h6 (Int.emod_nonneg _ (by rw [List.length_map]; decide)) (by rw [List.length_map]; exact Int.emod_lt_of_pos _ (by decide)) fun w hw=>hR _ _ ?_
      walk_at "rd"
      exact k w H6 s6 (zsy w hw)
    ·walk_at "rd"
     exact k z H5 s5 oz)
   clear hR
   refine ⟨_,rfl,ite2 (fun nk=>ite2 (fun _=>?_) fun _=>st3 z H4 s4 oz) fun _=>st3 z H4 s4 oz⟩
   have nk:=of_decide_eq_true nk
   have lp:0<ks.length:=List.length_pos_iff.mpr nk
   refine ixNum 0 (s4 _ _ hl) (by omega) fun y hy=>zil (.of (s4 _ _ hk)) ⟨_,rfl,_,rfl,by rw [List.length_map]; omega,?_⟩
   rw [List.length_map]
   refine ix0 s4 nk (fun w hw=>?_) y hy
   refine ⟨l,xs,1,rfl,s4 _ _ hl,by omega,by decide,fun v H6 s6 ov=>⟨w,rfl,v,rfl,?_,st3 _ H6 (s4.trans s6) ((ok w hw).app ov)⟩⟩
   have:=(ok w hw).2
   have:=ov.2
   exact zfj (by omega))
  clear hR
  refine ⟨_,rfl,ite2 (fun nk=>ite2 (fun _=>?_) fun _=>st2 z0 H2 s2 o0) fun _=>st2 z0 H2 s2 o0⟩
  have nk:=of_decide_eq_true nk
  have lp:0<ks.length:=List.length_pos_iff.mpr nk
  refine ixNum 0 (s2 _ _ hl) (by omega) fun y hy=>zil (.of (s2 _ _ hk)) ⟨_,rfl,_,rfl,by rw [List.length_map]; omega,?_⟩
  rw [List.length_map]
  exact ix0 s2 nk (fun w hw=>st2 w H2 s2 ((ok w hw).mono (by decide))) y hy
structure WE where
 nm:Str
 q:Addr
 ab:Str
 kd:Str
def weK (ws:List WE):List (Key×V):=ws.map fun w=>((Sum.inr w.nm:Key),V.ref w.q)
structure WdOk (H:Hp) (wd:Addr) (ws:List WE):Prop where
 hd:H wd=some (.dK (weK ws))
 ht:∀ w∈ws,H w.q=some (.tup [.str w.ab,.str w.kd])
theorem WdOk.same {H H':Hp} {wd:Addr} {ws:List WE} (h:WdOk H wd ws) (s:Same H H'):WdOk H' wd ws:=⟨s _ _ h.hd,fun w hw=>s _ _ (h.ht w hw)⟩
def wfn (ws:List WE) (x:Str):Option WE:=ws.find? fun w=>decide (w.nm=x)
theorem zfo (ws:List WE) (x:Str):valV (weK ws) (Sum.inr x:Key)=(wfn ws x).map fun w=>V.ref w.q:=by
 induction ws with
 | nil=>rfl
 | cons p r ih =>
  unfold valV weK wfn at ih ⊢
  rw [List.map_cons,List.find?_cons,List.find?_cons]
  by_cases h:p.nm=x
  ·simp [h]
  ·have h2:¬ (Sum.inr p.nm:Key)=Sum.inr x:=fun z=>h (Sum.inr.inj z)
   simp only [decide_eq_false h,decide_eq_false h2]
   exact ih
theorem zhw {ws:List WE} {x:Str} {w:WE} (h:wfn ws x=some w):w∈ws/\w.nm=x:=by
 unfold wfn at h
 exact ⟨List.mem_of_find?_eq_some h,of_decide_eq_true (List.find?_some (p:=fun n:WE=>decide (n.nm=x)) h)⟩
theorem we_at {H:Hp} {wd:Addr} {ws:List WE} {x:Str} {w:WE} (O:WdOk H wd ws) (h:wfn ws x=some w):DGet H wd (.str x) (some (.ref w.q)):=by
 have:=DGet.k (k:=Sum.inr x) O.hd
 rw [zfo,h] at this
 exact this
def leafS:Str:=Str.ofString "leaf"
def NW (n:ND) (w:WE):Prop:=n.nm=w.nm/\n.ab=some w.ab/\(n.ch=none↔w.kd=leafS)
def Mt (D:TD) (ws:List WE):Prop:=∃ r rest,D.ns=r :: rest/\Paired NW rest ws
theorem Mt.fnd {D:TD} {ws:List WE} (h:Mt D ws) (W:D.Wf) {x:Str} (hx:x≠road):(fndN D.ns x=none/\wfn ws x=none)\/∃ n w,fndN D.ns x=some n/\wfn ws x=some w/\NW n w:=by
 obtain ⟨r,rest,e,p⟩:=h
 obtain ⟨r',rest',e',r1,_⟩:=W.rd
 rw [e] at e'
 cases e'
 rw [e]
 have:fndN (r :: rest) x=fndN rest x:=by
  unfold fndN
  rw [List.find?_cons,decide_eq_false (fun z:r.nm=x=>hx (z.symm.trans r1))]
 rw [this]
 clear this e r1 hx W
 induction p with
 | nil=>exact .inl ⟨rfl,rfl⟩
 | @cons n w ns ws h t ih =>
  unfold fndN wfn at ih ⊢
  rw [List.find?_cons,List.find?_cons]
  by_cases c:n.nm=x
  ·have c2:w.nm=x:=h.1 ▸ c
   rw [decide_eq_true c,decide_eq_true c2]
   exact .inr ⟨n,w,rfl,rfl,h⟩
  ·have c2:¬ w.nm=x:=h.1 ▸ c
   rw [decide_eq_false c,decide_eq_false c2]
   exact ih
theorem Mt.kids {D:TD} {ws:List WE} (h:Mt D ws) (W:D.Wf) (x:Str):L2.kids D.ns x=(ws.filter fun w=>decide (w.ab=x)).map (·.nm):=by
 obtain ⟨r,rest,e,p⟩:=h
 obtain ⟨r',rest',e',r1,r2,_⟩:=W.rd
 rw [e] at e'
 cases e'
 rw [e]
 have:L2.kids (r :: rest) x=L2.kids rest x:=by
  unfold L2.kids
  rw [List.filter_cons,r2]
  rfl
 rw [this]
 clear this e r1 r2 W
 induction p with
 | nil=>rfl
 | @cons n w ns ws h t ih =>
  unfold L2.kids at ih ⊢
  rw [List.filter_cons,List.filter_cons,h.2.1]
  by_cases c:w.ab=x
  ·rw [if_pos (by simp [c]),if_pos (by simp [c]),List.map_cons,List.map_cons,ih,h.1]
  ·rw [if_neg (by simp [c]),if_neg (by simp [c]),ih]
theorem Mt.noroad {D:TD} {ws:List WE} (h:Mt D ws) (W:D.Wf):wfn ws road=none:=by
 obtain ⟨r,rest,e,p⟩:=h
 obtain ⟨r',rest',e',r1,r2,_⟩:=W.rd
 rw [e] at e'
 cases e'
 have nn:=W.nn
 rw [e,List.map_cons,List.nodup_cons,r1] at nn
 have:=nn.1
 clear nn e r1 r2 W
 induction p with
 | nil=>rfl
 | @cons n w ns ws h t ih =>
  rw [List.map_cons,List.mem_cons,not_or] at this
  unfold wfn at ih ⊢
  rw [List.find?_cons,decide_eq_false (fun z=>this.1 (by rw [h.1,z]))]
  exact ih this.2
def zuk:Sp:=fun vs H Q _=>∃ (wd:Addr) (D:TD) (ws:List WE) (x:Str) (ys:List Str),vs = [.ref wd,.str x]/\WdOk H wd ws/\D.Wf/\Mt D ws/\Up D.ns x ys/\Q (.int ((ys.length:Int)-1)) H
theorem zlt (T:Txt K mg c_WheelError c_NoName c_Taken c_NoClass c_NoPlace c_NoShare c_NoLength c_Members c_Chooser c_Starts c_Rounds c_Node c_Tree):Def P w K mg base (CXX P w) 1 "_law_deep" ["_law_world", "_law_name_here"] zuk:=by
 refine T.src__law_deep.okN (k:=0) sc__law_deep (fun vs H Q E h=>?_) (fun f cdv A outer s H vs Q E hr h=>?_)
 ·obtain ⟨wd,D,ws,x,ys,rfl,_⟩:=h
  rfl
 ·obtain ⟨wd,D,ws,x,ys,rfl,O,W,M,U,k⟩:=h
  refine ⟨_,(zae (zau (i:=2) sc__law_deep.nd rfl (by first|left;rfl|right;rfl) zai) (zae (zgz PassesOwn.never (zap op_ne (pv 1) zaq (zar _)) (zae (zau (i:=1) sc__law_deep.nd rfl (by first|left;rfl|right;rfl) (pe_ix (zge K rfl) (zem (hu_of hr) (pv 0) (pv 1) (fun _ _=>rfl)) zai (fun _ _=>rfl))) (zaf (zau (i:=2) sc__law_deep.nd rfl (by first|left;rfl|right;rfl) (pe_op zeg (pv 2) zai))))) (zaf (zat (pv 2))))),?_⟩
  show tSeq _ _ _ [some (.ref wd),some (.str x),none] H
  refine zad fun R hR=>?_
  walk_at "rd"
  refine hR _ _ ?_
  clear hR
  refine zad fun R hR=>?_
  refine zln (fun m σ H'=>∃ (z:Str) (zs:List Str),σ = [some (.ref wd),some (.str z),some (.int ((ys.length:Int)-zs.length))]/\H'=H/\Up D.ns z zs/\m=zs.length) ⟨x,ys,by rw [Int.sub_self],rfl,U,rfl⟩ ?_
  rintro m σ H1 ⟨z,zs,rfl,rfl,Uz,rfl⟩
  by_cases c:z=road
  ·refine ⟨false,fun Q hQ=>?_,fun z=>(by cases z),fun _=>hR _ _ ?_⟩
   ·subst c
    walk_at "rd"
    exact hQ
   ·walk_at "rd"
    have:zs.length = 1:=by
     cases Uz with
     | top _ _=>rfl
     | on h1 h2 _ =>
      obtain ⟨n,hn,ha,_⟩:=W.rdN
      rw [c,hn] at h1; cases h1
      rw [ha] at h2; cases h2
    rw [this]; exact k
  ·refine ⟨true,fun Q hQ=>?_,fun _=>?_,fun z=>(by cases z)⟩
   ·walk_at "rd"
    rw [show decide (z=Str.ofString "road")=false from decide_eq_false c]
    exact hQ
   ·rcases M.fnd W c with ⟨h1,_⟩ | ⟨n,w,h1,h2,nw⟩
    ·obtain ⟨n,hn⟩:=Uz.fnd
     rw [h1] at hn; cases hn
    refine zad fun R hR=>?_
    walk_at "rd"
    refine ⟨_,we_at O h2,?_⟩
    refine zhi (.of (O.ht w (zhw h2).1)) (v:=.str w.ab) rfl (hR _ _ ?_)
    clear hR
    walk_at "rd"
    cases Uz with
    | top q1 q2 =>
     rw [h1] at q1; cases q1
     rw [nw.2.1] at q2; cases q2
    | on q1 q2 q3 =>
     rw [h1] at q1; cases q1
     rw [nw.2.1] at q2; cases q2
     rename_i zs'
     refine ⟨zs'.length,by simp,zs',?_,q3,rfl⟩
     rw [List.length_cons]
     omega
def dueW:Option Rf->Str
 | none=>Str.ofString "put"
 | some .name=>Str.ofString "name"
 | some .taken=>Str.ofString "taken"
 | some .cls=>Str.ofString "class"
 | some .place=>Str.ofString "place"
 | some .share=>Str.ofString "share"
 | some .length=>Str.ofString "length"
theorem name_iff {x:Str}:zcw x↔¬ (x=Str.ofString "")/\x.length<=8/\(x.cps.toList.filter fun c=>!decide (c∈lets.cps.toList)) = []:=by
 have e0:x=Str.ofString "" ↔ x.length = 0:=by
  constructor
  ·intro h; rw [h]; decide +kernel
  ·intro h
   cases x with
   | mk a =>
    have:a.size = 0:=h
    have:a = #[]:=Array.eq_empty_of_size_eq_zero this
    rw [this]
    decide +kernel
 rw [e0,List.filter_eq_nil_iff]
 unfold zcw
 constructor
 ·rintro ⟨⟨a,b⟩,c⟩
  exact ⟨by omega,b,fun y hy=>by simpa using c y hy⟩
 ·rintro ⟨a,b,c⟩
  exact ⟨⟨by omega,b⟩,fun y hy=>by simpa using c y hy⟩
theorem zpp {kd:Str}:inV (.str kd) [.str (Str.ofString "leaf"),.str (Str.ofString "starts"),.str (Str.ofString "rounds")] = decide (kdOk kd):=by
 rw [Bool.eq_iff_iff,decide_eq_true_iff]
 show (Str.ofString "leaf" == kd || (Str.ofString "starts" == kd || (Str.ofString "rounds" == kd || false)))=true↔kd=Str.ofString "leaf" \/ (kd=Str.ofString "starts" \/ kd=Str.ofString "rounds")
 rw [Bool.or_false,Bool.or_eq_true,Bool.or_eq_true,beq_iff_eq,beq_iff_eq,beq_iff_eq]
 exact ⟨fun h=>h.imp Eq.symm (·.imp Eq.symm Eq.symm),fun h=>h.imp Eq.symm (·.imp Eq.symm Eq.symm)⟩
def spDue:Sp:=fun vs H Q _=>∃ (wd:Addr) (D:TD) (ws:List WE) (x u kd:Str) (s:Int) (rm:V),vs = [.ref wd,.str x,.str u,.str kd,.int s,rm]/\WdOk H wd ws/\D.Wf/\Mt D ws/\StOk 10000 x/\(rm = .non\/∃ r,rm = .int r)/\∀ H',Same H H'->Q (.str (dueW (dueP D x u kd s rm))) H'
theorem znh (T:Txt K mg c_WheelError c_NoName c_Taken c_NoClass c_NoPlace c_NoShare c_NoLength c_Members c_Chooser c_Starts c_Rounds c_Node c_Tree):Def P w K mg base (CXX P w) 2 "_law_due" ["_law_world", "_law_name_here", "_law_above", "_law_kind", "_law_share", "_law_room"] spDue:=by
 have D__law_deep:=zlt (P:=P) (w:=w) (base:=base) T
 refine T.src__law_due.okN (k:=1) sc__law_due (fun vs H Q E h=>?_) (fun f cdv A outer s H vs Q E hr h=>?_)
 ·obtain ⟨wd,D,ws,x,u,kd,s,rm,rfl,_⟩:=h
  rfl
 ·obtain ⟨wd,D,ws,x,u,kd,s,rm,rfl,O,W,M,xl,hrm,k⟩:=h
  refine ⟨_,(zae (zau (i:=6) sc__law_due.nd rfl (by first|left;rfl|right;rfl) zaq) (zae (ps_if (PW.pt (pw_or (zap op_eq (pv 1) zaq (zar _)) (pw_or (zap op_gt (zbi zgq rfl T.no_len boot_len (zaa (pv 1) zag)) zai (zar _)) (zgo (zap (zet K rfl hr.units) (pe_lc ["_law_sign"] [("_law_signs", 6)] rfl (by with_unfolding_all rfl) (by decide +kernel) rfl (by decide +kernel) (by exact ⟨rfl,True.intro⟩) (by with_unfolding_all rfl) ⟨⟨rfl,rfl,rfl⟩,True.intro⟩ (zro (pv 1)) (fun _ _ _=>(zdu (i:=0) (show (["_law_sign", "_law_signs"]:List Str).Nodup from by decide +kernel) rfl (by first|left;rfl|right;rfl))) (fun _ _ _=>(zja (zap zpe (pv 0) (pv 1) rfl))) (fun _ _ _=>(pv 0))) (zdg zag) (zar _)))))) (zaf (zat zaq)) zas) (zae (ps_if (PW.pt (pw_or (zap op_eq (pv 1) zaq (zar _)) (zgo (zgn (zmk (hu_of hr) (pv 1) (pv 0)))))) (zaf (zat zaq)) zas) (zae (ps_if (PW.pt (zdz (zap op_ne (pv 2) zaq (zar _)) (zef (zgn (zft (hu_of hr) (pv 2) (pv 0)))))) (zaf (zat zaq)) zas) (zae (ps_if (PW.pt (pw_or (zap (zhl K rfl) (pv 3) (zoa (zaa zaq (zaa zaq (zaa zaq zag)))) rfl) (zgo (PW.pt (zdz (zap op_ne (pv 2) zaq (zar _)) (zef (zap op_eq (pe_ix (zge K rfl) (zem (hu_of hr) (pv 0) (pv 2) (fun _ _=>rfl)) zai (fun _ _=>rfl)) zaq (zar _)))))))) (zaf (zat zaq)) zas) (zae (ps_if (zap op_eq (zaw D__law_deep (hr.mono (by decide)) rfl passN (zaa (pv 0) (zaa (pv 2) zag))) zai (zar _)) (zaf (zat zaq)) zas) (zae (ps_if (PW.pt (pw_or (zap op_lt (pv 4) zai (zar _)) (zgo (zap op_gt (pv 4) (pe_op zgp zai zai) (zar _))))) (zaf (zat zaq)) zas) (zae (ps_if (PW.pt (zdz (zap op_eq (pv 3) zaq (zar _)) (zdz (zap ziv (pv 5) zdy (zar _)) (zef (zap op_lt (pv 5) zai (zar _)))))) (zaf (zat zaq)) zas) (zaf (zat zaq)))))))))),?_⟩
  show tSeq _ _ _ [some (.ref wd),some (.str x),some (.str u),some (.str kd),some (.int s),some rm,none] H
  refine zad fun R hR=>?_
  walk_at "rd"
  refine hR _ _ ?_
  clear hR
  refine zad fun R hR=>?_
  refine zmq fun G hG=>?_
  walk_at "rd"
  have bad:∀ H',Same H H'->¬ zcw x->G [some (.ref wd),some (.str x),some (.str u),some (.str kd),some (.int s),some rm,some (.str (Str.ofString "abcdefghijklmnopqrstuvwxyz"))] H':=fun H' s' c=>hG _ _ (by
   walk_at "rd"
   have:=k H' s'
   rw [zhc c] at this
   exact this)
  clear hG
  refine ite2 (fun c1=>bad H (Same.refl _) fun q=>(name_iff.mp q).1 c1) fun c1=>⟨zfj (by have:=xl.2; omega),ite2 (fun c2=>bad H (Same.refl _) fun q=>by have:=(name_iff.mp q).2.1; omega) fun c2=>?_⟩
  simp only [iStr]
  walk_at "rd"
  intro L hL
  show CompG _ _ _ _ L [none,some (.str lets)] _ _
  refine zmn (fun i τ H'=>(∃ v,τ = [v,some (.str lets)])/\Same H H'/\H' L=some (.lst ((((x.cps.toList.take i).filter fun c=>!decide (c∈lets.cps.toList)).map sg).map V.str))) ⟨⟨none,rfl⟩,zak hL,zab⟩ ?_ ?_
  ·rintro i c τ H' hc ⟨⟨v,rfl⟩,s',hLl⟩
   have hi:=(List.getElem?_eq_some_iff.mp hc).1
   rw [Sw.len_list] at hi
   walk_at "rd"
   refine ⟨sg c,lets,rfl,rfl,_,rfl,?_⟩
   rw [Sw.in_str lets c]
   have ta:(x.cps.toList.take (i+1)).filter (fun c=>!decide (c∈lets.cps.toList))=(x.cps.toList.take i).filter (fun c=>!decide (c∈lets.cps.toList))++(if (!decide (c∈lets.cps.toList))=true then [c] else []):=by
    rw [zhb hc,List.filter_append,List.filter_cons,List.filter_nil]
   refine ite2 (fun c3=>?_) fun c3=>⟨s',?_⟩
   ·have ll:=xl.2
    refine ⟨_,hLl,zeu (by
     rw [List.length_map,List.length_map]
     have:=List.length_filter_le (fun c=>!decide (c∈lets.cps.toList)) (x.cps.toList.take i)
     rw [List.length_take] at this
     omega),fun b o e=>?_,?_⟩
    ·rw [zah (zan e hL)]; exact s' _ _ e
    ·rw [zab,ta,if_pos c3,List.map_append,List.map_append]; rfl
   ·rw [ta,if_neg c3,List.append_nil]; exact hLl
  rintro τ H1 ⟨_,s1,hLl⟩
  rw [<- Sw.len_list,List.take_length] at hLl
  intro p1 f1
  have s2:=s1.trans (zak (o:=.lst []) f1)
  refine zpl (zak f1 _ _ hLl) (fun z hz=>?_) zab ⟨_,rfl,?_⟩
  ·obtain ⟨c,hc,rfl⟩:=List.mem_map.mp hz
   have:=(List.mem_filter.mp hc).1
   exact (StOk.one ((ok_iff.mp xl.1) c this)).1
  generalize upd H1 p1 (.lst [])=H2 at s2 ⊢
  refine ite2 (fun c3=>bad H2 s2 fun q=>?_) fun c3=>?_
  ·have:=of_decide_eq_true c3
   exact this (by rw [(name_iff.mp q).2.2]; rfl)
  have nok:zcw x:=name_iff.mpr ⟨c1,by omega,by
   have:¬ _:=fun z=>c3 (decide_eq_true z)
   exact List.map_eq_nil_iff.mp (Decidable.not_not.mp this)⟩
  clear bad c3 c1 c2
  refine hR _ _ ?_
  clear hR s1 hLl f1 hL
  have O:=O.same s2
  have k:∀ H',Same H2 H'->Q (.str (dueW (dueP D x u kd s rm))) H':=fun H' s'=>k H' (s2.trans s')
  refine zad fun R hR=>?_
  walk_at "rd"
  have tk:fndN D.ns x≠none->Q (.str (Str.ofString "taken")) H2:=fun c=>by
   have:=k H2 (Same.refl _)
   rw [zfx nok c] at this
   exact this
  refine ite2 (fun c1=>tk ?_) fun c1=>⟨_,DGet.k (k:=Sum.inr x) O.hd,?_⟩
  ·subst c1
   obtain ⟨n,hn,_⟩:=W.rdN
   show fndN D.ns road≠none
   rw [hn]; simp
  rw [zfo]
  rcases M.fnd W c1 with ⟨hx,h2⟩ | ⟨n,w,hx,h2,nw⟩
  case inr =>
   rw [h2]
   exact tk (by rw [hx]; simp)
  rw [h2]
  clear tk
  refine hR _ _ ?_
  clear hR
  refine zad fun R hR=>?_
  walk_at "rd"
  have post:(∃ un,fndN D.ns u=some un/\(u≠road->∃ w,wfn ws u=some w/\NW un w))->R [some (.ref wd),some (.str x),some (.str u),some (.str kd),some (.int s),some rm,some (.str (Str.ofString "abcdefghijklmnopqrstuvwxyz"))] H2:=fun ⟨un,hu,hw⟩=>hR _ _ (by
   clear hR
   obtain ⟨uin,une⟩:=zdp hu
   obtain ⟨ys,U,yl⟩:=W.up un uin
   rw [une] at U
   have pl:∀ {H3},Same H2 H3->¬ (kdOk kd/\un.ch≠none/\ys.length<=5)->Q (.str (Str.ofString "place")) H3:=fun {H3} s3 c=>by
    have:=k H3 s3
    rw [zfy nok hx hu fun q=>c ⟨q.1,q.2.1,q.2.2 ys U⟩] at this
    exact this
   refine zad fun R hR=>?_
   walk_at "rd"
   intro p3 f3
   have s3:=zak (o:=.tup [.str (Str.ofString "leaf"),.str (Str.ofString "starts"),.str (Str.ofString "rounds")]) f3
   refine ⟨p3,_,rfl,.inr (.of zab),rfl,rfl,_,rfl,?_⟩
   rw [zpp,if_pos rfl]
   have O3:=O.same s3
   generalize upd H2 p3 (.tup [.str (Str.ofString "leaf"),.str (Str.ofString "starts"),.str (Str.ofString "rounds")])=H3 at s3 O3 ⊢
   by_cases c3:kdOk kd
   case neg =>
    rw [if_pos (by simp [c3])]
    exact pl s3 fun q=>c3 q.1
   rw [if_neg (by simp [c3])]
   have on:un.ch≠none->R [some (.ref wd),some (.str x),some (.str u),some (.str kd),some (.int s),some rm,some (.str (Str.ofString "abcdefghijklmnopqrstuvwxyz"))] H3:=fun c4=>hR _ _ (by
    clear hR
    refine zad fun R hR=>?_
    walk_at "rd"
    refine ⟨wd,D,ws,u,ys,rfl,O3,W,M,U,rfl,?_⟩
    refine ite2 (fun c5=>pl s3 fun q=>?_) fun c5=>hR _ _ ?_
    ·have:=V.int.inj c5
     omega
    have c5:¬ (ys.length:Int)-1 = 5:=fun z=>c5 (by rw [z])
    clear hR
    have gd:kdOk kd/\un.ch≠none/\∀ ys,Up D.ns u ys->ys.length<=5:=⟨c3,c4,fun zs z=>by rw [<- U.det z]; omega⟩
    refine zad fun R hR=>?_
    walk_at "rd"
    have sh:¬ (1<=s/\s<=1000000)->Q (.str (Str.ofString "share")) H3:=fun c=>by
     have:=k H3 s3
     rw [zfz nok hx hu gd c] at this
     exact this
    refine ite2 (fun c6=>sh fun q=>by omega) fun c6=>ite2 (fun c7=>sh fun q=>by omega) fun c7=>hR _ _ ?_
    clear hR sh
    have gs:1<=s/\s<=1000000:=by omega
    refine zad fun R hR=>?_
    walk_at "rd"
    have put:¬ (kd=Str.ofString "leaf" /\ ∃ r:Int,rm = .int r/\r<0)->R [some (.ref wd),some (.str x),some (.str u),some (.str kd),some (.int s),some rm,some (.str (Str.ofString "abcdefghijklmnopqrstuvwxyz"))] H3:=fun c=>hR _ _ (by
     walk_at "rd"
     have:=k H3 s3
     rw [zjg nok hx hu gd gs c] at this
     exact this)
    clear hR
    refine ite2 (fun c8=>ite2 (fun c9=>put fun q=>?_) fun c9=>?_) fun c8=>put fun q=>c8 q.1
    ·obtain ⟨r,e,_⟩:=q.2
     rw [c9] at e; cases e
    ·obtain ⟨r,e⟩:=hrm.resolve_left c9
     refine ⟨r,e,ite2 (fun c10=>?_) fun c10=>put fun q=>?_⟩
     ·have:=k H3 s3
      rw [zgl nok hx hu gd gs ⟨c8,r,e,c10⟩] at this
      exact this
     ·obtain ⟨r',e',h'⟩:=q.2
      rw [e] at e'; cases e'
      exact c10 h')
   clear hR
   refine ite2 (fun c4=>on ?_) fun c4=>?_
   ·subst c4
    obtain ⟨n,hn,_,hc⟩:=W.rdN
    have:fndN D.ns road=some un:=hu
    rw [hn] at this; cases this
    exact hc
   ·obtain ⟨w,hw,nw⟩:=hw c4
    refine ⟨_,we_at O3 hw,?_⟩
    refine zhi (.of (O3.ht w (zhw hw).1)) (v:=.str w.kd) rfl ?_
    walk_at "rd"
    exact ite2 (fun c5=>pl s3 fun q=>q.2.1 (nw.2.2.mpr c5)) fun c5=>on fun z=>c5 (nw.2.2.mp z))
  clear hR
  refine ite2 (fun c2=>post ?_) fun c2=>⟨_,DGet.k (k:=Sum.inr u) O.hd,?_⟩
  ·subst c2
   obtain ⟨n,hn,_⟩:=W.rdN
   exact ⟨n,hn,fun z=>absurd rfl z⟩
  rw [zfo]
  rcases M.fnd W c2 with ⟨hu,h2⟩ | ⟨un,w,hu,h2,nw⟩
  ·rw [h2]
   have:=k H2 (Same.refl _)
   rw [zlp nok hx hu] at this
   exact this
  ·rw [h2]
   exact post ⟨un,hu,fun _=>⟨w,h2,nw⟩⟩
def PutOk (C:Cl) (D:TD) (x u kd:Str) (s:Int) (rm:V) (H H':Hp) (D':TD):Prop:=∃ (un:ND) (c:At5×CSt) (n:ND),D'=D.put un c s n/\fndN D.ns u=some un/\un.ch=some c/\n.nm=x/\n.ab=some u/\n.rm=rm/\n.bk=none/\n.ps = []/\n.qu = []/\(kd=Str.ofString "leaf" -> n.ch=none)/\(Inner kd->∃ a,n.ch=some (a,CSt.new (kdB kd)))/\(∀ b∈n.foot,H b=none)/\TrOk C H' D'/\Deed D.foot H H'
theorem zpq {D:TD} {x u kd:Str} {s:Int} {rm:V} (h:dueP D x u kd s rm=none):zcw x/\fndN D.ns x=none/\(∃ n,fndN D.ns u=some n/\kdOk kd/\n.ch≠none/\∀ ys,Up D.ns u ys->ys.length<=5)/\(1<=s/\s<=1000000):=by
 by_cases c1:zcw x
 case neg=>rw [zhc c1] at h; cases h
 cases hx:fndN D.ns x with
 | some v=>rw [zfx c1 (by rw [hx]; simp)] at h; cases h
 | none =>
 cases hu:fndN D.ns u with
 | none=>rw [zlp c1 hx hu] at h; cases h
 | some n =>
 by_cases c2:kdOk kd/\n.ch≠none/\∀ ys,Up D.ns u ys->ys.length<=5
 case neg=>rw [zfy c1 hx hu c2] at h; cases h
 by_cases c3:1<=s/\s<=1000000
 case neg=>rw [zfz c1 hx hu c2 c3] at h; cases h
 exact ⟨c1,rfl,⟨n,rfl,c2⟩,c3⟩
theorem zhx {D:TD} {x u kd:Str} {s:Int} {rm:V} (h:dueP D x u kd s rm=some .cls):fndN D.ns u=none:=by
 by_cases c1:zcw x
 case neg=>rw [zhc c1] at h; cases h
 cases hx:fndN D.ns x with
 | some v=>rw [zfx c1 (by rw [hx]; simp)] at h; cases h
 | none =>
 cases hu:fndN D.ns u with
 | none=>rfl
 | some n =>
 by_cases c2:kdOk kd/\n.ch≠none/\∀ ys,Up D.ns u ys->ys.length<=5
 case neg=>rw [zfy c1 hx hu c2] at h; cases h
 by_cases c3:1<=s/\s<=1000000
 case neg=>rw [zfz c1 hx hu c2 c3] at h; cases h
 by_cases c4:kd=Str.ofString "leaf" /\ ∃ r:Int,rm = .int r/\r<0
 ·rw [zgl c1 hx hu c2 c3 c4] at h; cases h
 ·rw [zjg c1 hx hu c2 c3 c4] at h; cases h
theorem zqz {x:Str} (h:zcw x):PyData.strOk x=true/\x.length<=8:=by
 refine ⟨?_,h.1.2⟩
 rw [ok_iff]
 intro c hc
 have:∀ c∈lets.cps.toList,c<1114112:=by decide +kernel
 exact this c (h.2 c hc)
theorem PutOk.wf {C:Cl} {D D':TD} {x u kd:Str} {s:Int} {rm:V} {H H':Hp} (h:PutOk C D x u kd s rm H H' D') (W:D.Wf) (d:dueP D x u kd s rm=none):D'.Wf:=by
 obtain ⟨un,c,n,rfl,hu,hc,h1,h2,h3,h4,h5,h6,h7,h8,h9,h10,h11⟩:=h
 obtain ⟨nok,hx,⟨n',hu',ok,_,dp⟩,sh⟩:=zpq d
 rw [hu] at hu'; cases hu'
 obtain ⟨uin,une⟩:=zdp hu
 have nx:shOf c.2.nm x=none:=by
  rw [Sw.sh_none,W.kid un uin c hc]
  intro z
  unfold kids at z
  obtain ⟨y,hy,e⟩:=List.mem_map.mp z
  exact fnd_none.mp hx (List.mem_map.mpr ⟨y,(List.mem_filter.mp hy).1,e⟩)
 have so:=zqz nok
 subst h1
 refine W.put uin hc rfl ((W.cok un uin c hc).put nx sh.1 sh.2 so.1) hx (by rw [h2,une]) (fun ys U=>dp ys (by rw [<- une]; exact U)) (fun d hd=>?_) so
 rcases ok with z | z
 ·rw [h7 z] at hd; cases hd
 ·obtain ⟨a,e⟩:=h8 z
  rw [e] at hd; cases hd
  exact ⟨CSt.nm_new _,CSt.Ok.new W.m1.1 _⟩
theorem zms {ns:List ND} {n y:ND} (h:y∈setN ns n):y=n\/(y∈ns/\y.nm≠n.nm):=by
 unfold setN at h
 obtain ⟨z,hz,q⟩:=List.mem_map.mp h
 split at q
 ·exact .inl q.symm
 ·rename_i k
  exact .inr ⟨q ▸ hz,q ▸ k⟩
theorem PutOk.foot {C:Cl} {D D':TD} {x u kd:Str} {s:Int} {rm:V} {H H':Hp} (h:PutOk C D x u kd s rm H H' D'):∀ b∈D'.foot,b∈D.foot\/H b=none:=by
 obtain ⟨un,c,n,rfl,hu,hc,h1,h2,h3,h4,h5,h6,h7,h8,h9,h10,h11⟩:=h
 intro b hb
 obtain ⟨uin,une⟩:=zdp hu
 unfold TD.foot at hb
 rcases List.mem_cons.mp hb with z | hb
 ·exact .inl (z ▸ List.mem_cons_self ..)
 rcases List.mem_cons.mp hb with z | hb
 ·exact .inl (z ▸ List.mem_cons_of_mem _ (List.mem_cons_self ..))
 rcases List.mem_cons.mp hb with z | hb
 ·exact .inl (z ▸ List.mem_cons_of_mem _ (List.mem_cons_of_mem _ (List.mem_cons_self ..)))
 obtain ⟨y,hy,z⟩:=List.mem_flatMap.mp hb
 rcases List.mem_append.mp hy with hy | hy
 ·rcases zms hy with q | q
  ·left
   refine TD.mem_node uin ?_
   rw [q] at z
   unfold ND.foot at z ⊢
   rw [hc]; exact z
  ·exact .inl (TD.mem_node q.1 z)
 ·rw [List.mem_singleton.mp hy] at z
  exact .inr (h9 b z)
theorem PutOk.len {C:Cl} {D D':TD} {x u kd:Str} {s:Int} {rm:V} {H H':Hp} (h:PutOk C D x u kd s rm H H' D'):D'.ns.length=D.ns.length+1:=by
 obtain ⟨un,c,n,rfl,_⟩:=h
 show (setN D.ns _++[n]).length = _
 rw [List.length_append]
 unfold setN
 rw [List.length_map]; rfl
theorem zul (c:CSt) (x:Str) (s:Int):(c.put x s).sz<=c.sz+3:=by
 cases c with
 | st=>exact Nat.le_refl _
 | rd nm q rs tu ch =>
  show (nm++[(x,s)]).length<=nm.length+3
  rw [List.length_append]; simp
theorem PutOk.full {C:Cl} {D D':TD} {x u kd:Str} {s:Int} {rm:V} {H H':Hp} (h:PutOk C D x u kd s rm H H' D') (ok:kdOk kd) (F:D.full) (l:D.ns.length<60):D'.full:=by
 have ln:=h.len
 obtain ⟨un,c,n,rfl,hu,hc,h1,h2,h3,h4,h5,h6,h7,h8,h9,h10,h11⟩:=h
 obtain ⟨uin,une⟩:=zdp hu
 refine ⟨by omega,fun y hy d hd=>?_⟩
 rw [ln]
 rcases List.mem_append.mp hy with hy | hy
 ·rcases zms hy with q | q
  ·rw [q] at hd
   cases hd
   have:=zul c.2 n.nm s
   have:=F.2 un uin c hc
   show (c.2.put n.nm s).sz<=_
   omega
  ·have:=F.2 y q.1 d hd
   omega
 ·rw [List.mem_singleton.mp hy] at hd
  rcases ok with z | z
  ·rw [h7 z] at hd; cases hd
  ·obtain ⟨a,e⟩:=h8 z
   rw [e] at hd; cases hd
   have:(CSt.new (kdB kd)).sz = 0:=by cases kdB kd <;> rfl
   show (CSt.new (kdB kd)).sz<=_
   rw [this]; omega
theorem zgu {α β:Type} {R:α->β->Prop}:∀ {l:List α} {k:List β} {a b},Paired R l k->R a b->Paired R (l++[a]) (k++[b])
 | _,_,_,_,.nil,h=>.cons h .nil
 | _,_,_,_,.cons x y,h=>.cons x (zgu y h)
theorem PutOk.mt {C:Cl} {D D':TD} {x u kd:Str} {s:Int} {rm:V} {H H':Hp} {ws:List WE} (h:PutOk C D x u kd s rm H H' D') (ok:kdOk kd) (M:Mt D ws) (W:D.Wf) (q:Addr):Mt D' (ws++[⟨x,q,u,kd⟩]):=by
 obtain ⟨un,c,n,rfl,hu,hc,h1,h2,h3,h4,h5,h6,h7,h8,h9,h10,h11⟩:=h
 obtain ⟨r,rest,e,p⟩:=M
 obtain ⟨uin,une⟩:=zdp hu
 have pa:∀ {l:List ND} {ws:List WE},(∀ y∈l,y.nm=un.nm->y=un)->Paired NW l ws->Paired NW (setN l { un with ch:=some (c.1,c.2.put n.nm s) }) ws:=fun {l ws} hl p=>by
  induction p with
  | nil=>exact .nil
  | @cons y v l ws a b ih =>
   refine .cons ?_ (ih fun z hz=>hl z (List.mem_cons_of_mem _ hz))
   show NW (if y.nm=un.nm then { un with ch:=some (c.1,c.2.put n.nm s) } else y) v
   by_cases q:y.nm=un.nm
   ·have:=hl y (List.mem_cons_self ..) q
    subst this
    rw [if_pos rfl]
    refine ⟨a.1,a.2.1,?_⟩
    have a3:=a.2.2
    rw [hc] at a3
    constructor
    ·intro z; cases z
    ·intro z; exact absurd (a3.mpr z) (by simp)
   ·rw [if_neg q]; exact a
 have un1:∀ y∈D.ns,y.nm=un.nm->y=un:=fun y hy q=>by
  have:=zhm W.nn hy
  rw [q,zhm W.nn uin] at this
  exact (Option.some.inj this).symm
 refine ⟨if r.nm=un.nm then { un with ch:=some (c.1,c.2.put n.nm s) } else r,setN rest { un with ch:=some (c.1,c.2.put n.nm s) }++[n],?_,?_⟩
 ·show setN D.ns _++[n] = _
  rw [e]; rfl
 ·refine zgu (pa (fun y hy=>un1 y (by rw [e]; exact List.mem_cons_of_mem _ hy)) p) ⟨h1,h2,?_⟩
  show n.ch=none↔kd=leafS
  constructor
  ·intro z
   rcases ok with y | y
   ·exact y
   ·obtain ⟨a,e⟩:=h8 y
    rw [z] at e; cases e
  ·exact h7
structure Kits (K:PySem.W.Frag) (c1 c2 c3 c4 c5 c6 c:Addr) (b1 b2 b3 b4 b5 b6:Bool):Prop where
 xc:XC K c
 k1:PySem.W.kitOne K (.ref c) (.ref c1)=some b1
 k2:PySem.W.kitOne K (.ref c) (.ref c2)=some b2
 k3:PySem.W.kitOne K (.ref c) (.ref c3)=some b3
 k4:PySem.W.kitOne K (.ref c) (.ref c4)=some b4
 k5:PySem.W.kitOne K (.ref c) (.ref c5)=some b5
 k6:PySem.W.kitOne K (.ref c) (.ref c6)=some b6
 ve:PySem.W.kitOne K (.ref c) (.type "ValueError")=some true
 ct:[b1,b2,b3,b4,b5,b6].count true = 1
def zta (K:PySem.W.Frag) (c1 c2 c3 c4 c5 c6:Addr):Sp:=fun vs H Q _=>∃ e c b1 b2 b3 b4 b5 b6,vs = [.ref e,.int 1]/\H e=some (excO e c none false)/\Kits K c1 c2 c3 c4 c5 c6 c b1 b2 b3 b4 b5 b6/\∀ H',Same H H'->Q (.bl true) H'
theorem zkw (T:Txt K mg c_WheelError c_NoName c_Taken c_NoClass c_NoPlace c_NoShare c_NoLength c_Members c_Chooser c_Starts c_Rounds c_Node c_Tree):DefN P w K mg base (CXX P w) 1 "_law_other" ["_law_e", "_law_many"] (zta K c_NoName c_Taken c_NoClass c_NoPlace c_NoShare c_NoLength):=by
 refine T.src__law_other.okM (k:=0) sc__law_other (fun vs H Q E h=>?_) (fun f cdv A outer s H vs Q E hr h=>?_)
 ·obtain ⟨e,c,b1,b2,b3,b4,b5,b6,rfl,_⟩:=h
  rfl
 ·obtain ⟨e,c,b1,b2,b3,b4,b5,b6,rfl,he,kt,k⟩:=h
  refine ⟨_,(zae (zau (i:=2) sc__law_other.nd rfl (by first|left;rfl|right;rfl) (zdg (zaa (zbi (zcl K rfl) rfl T.no_isinstance boot_isinstance (zaa (pv 0) (zaa (zee (v:=.ref c_NoName) rfl T.mg_NoName rfl) zag))) (zaa (zbi (zcl K rfl) rfl T.no_isinstance boot_isinstance (zaa (pv 0) (zaa (zee (v:=.ref c_Taken) rfl T.mg_Taken rfl) zag))) (zaa (zbi (zcl K rfl) rfl T.no_isinstance boot_isinstance (zaa (pv 0) (zaa (zee (v:=.ref c_NoClass) rfl T.mg_NoClass rfl) zag))) zag))))) (zae (zau (i:=2) sc__law_other.nd rfl (by first|left;rfl|right;rfl) (pe_op zod (pv 2) (zdg (zaa (zbi (zcl K rfl) rfl T.no_isinstance boot_isinstance (zaa (pv 0) (zaa (zee (v:=.ref c_NoPlace) rfl T.mg_NoPlace rfl) zag))) (zaa (zbi (zcl K rfl) rfl T.no_isinstance boot_isinstance (zaa (pv 0) (zaa (zee (v:=.ref c_NoShare) rfl T.mg_NoShare rfl) zag))) (zaa (zbi (zcl K rfl) rfl T.no_isinstance boot_isinstance (zaa (pv 0) (zaa (zee (v:=.ref c_NoLength) rfl T.mg_NoLength rfl) zag))) zag)))))) (zaf (zat (znp (zhe op_eq (pe_bm PySem.F.plainAttrs_list PySem.F.slot_list_count PySem.F.type_list_count (zph hr.units66) (pv 2) (zaa pe_bl zag)) (pv 1) (zar _)) (zno (zbi (zcl K rfl) rfl T.no_isinstance boot_isinstance (zaa (pv 0) (zaa (zkz (v:=.ty "ValueError") rfl T.no_ValueError Boot.«ValueError» rfl) zag))))))))),?_⟩
  show tSeq _ _ _ [some (.ref e),some (.int 1),none] H
  refine zad fun R hR=>?_
  walk_at "rd"
  refine zfi he (.inl rfl) kt.xc rfl kt.k1 ?_
  walk_at "rd"
  refine zfi he (.inl rfl) kt.xc rfl kt.k2 ?_
  walk_at "rd"
  refine zfi he (.inl rfl) kt.xc rfl kt.k3 ?_
  walk_at "rd"
  intro p1 f1
  refine hR _ _ ?_
  clear hR
  have s1:=zak (o:=.lst [.bl b1,.bl b2,.bl b3]) f1
  have h1:upd H p1 (.lst [.bl b1,.bl b2,.bl b3]) p1=some (.lst [.bl b1,.bl b2,.bl b3]):=zab
  refine (show tSeq _ _ _ [some (.ref e),some (.int 1),some (.ref p1)] (upd H p1 (.lst [.bl b1,.bl b2,.bl b3])) from ?_)
  generalize upd H p1 (.lst [.bl b1,.bl b2,.bl b3])=H1 at s1 h1 ⊢
  have he:=s1 _ _ he
  refine zad fun R hR=>?_
  walk_at "rd"
  refine zfi he (.inl rfl) kt.xc rfl kt.k4 ?_
  walk_at "rd"
  refine zfi he (.inl rfl) kt.xc rfl kt.k5 ?_
  walk_at "rd"
  refine zfi he (.inl rfl) kt.xc rfl kt.k6 ?_
  walk_at "rd"
  intro p2 f2
  have s2:=zak (o:=.lst [.bl b4,.bl b5,.bl b6]) f2
  refine ⟨p1,p2,_,_,rfl,rfl,s2 _ _ h1,zab,zfj (by simp),fun p3 f3=>hR _ _ ?_⟩
  clear hR
  have s3:=(s1.trans s2).trans (zak (o:=.lst ([b1,b2,b3,b4,b5,b6].map V.bl)) f3)
  have he:=s2 _ _ he
  have he:=zak (o:=.lst ([b1,b2,b3,b4,b5,b6].map V.bl)) f3 _ _ he
  walk_at "rd"
  refine ⟨zeq zab,p3,[b1,b2,b3,b4,b5,b6],true,rfl,rfl,zab,rfl,?_⟩
  rw [kt.ct]
  refine ite2 (fun _=>zfi he (.inl rfl) kt.xc rfl kt.ve (k _ s3)) fun z=>absurd rfl z
def zum (C:Cl):Sp:=fun vs H Q _=>∃ (D:TD) (x u kd:Str) (s:Int) (rm:V),vs = [.ref D.p,.str x,.str u,.str kd,.int s,rm]/\TrOk C H D/\D.Wf/\D.full/\StOk 10000 x/\(rm = .non\/∃ r,rm = .int r) /\
 (∀ r,dueP D x u kd s (if rm = .int (-7) then .non else rm)=some r->∀ H',Same H H'->Q (.str (dueW (some r))) H') /\
 (dueP D x u kd s (if rm = .int (-7) then .non else rm)=none->∀ D' H',PutOk C D x u kd s (if rm = .int (-7) then .non else rm) H H' D'->Q (.str (Str.ofString "put")) H')
theorem zni (T:Txt K mg c_WheelError c_NoName c_Taken c_NoClass c_NoPlace c_NoShare c_NoLength c_Members c_Chooser c_Starts c_Rounds c_Node c_Tree):Def P w K mg base (CXX P w) 8 "_law_put" ["_law_tree", "_law_name_here", "_law_above", "_law_kind", "_law_share", "_law_room"] (zum (⟨c_Node,c_Starts,c_Rounds,c_Members,c_Node,c_Tree⟩:Cl)):=by
 have M_Tree_put:=zis (P:=P) (w:=w) (base:=base) T
 refine T.src__law_put.okN (k:=7) sc__law_put (fun vs H Q E h=>?_) (fun f cdv A outer s H vs Q E hr h=>?_)
 ·obtain ⟨D,x,u,kd,s,rm,rfl,_⟩:=h
  rfl
 ·obtain ⟨D,x,u,kd,s,rm,rfl,O,W,F,xl,hrm,kx,k⟩:=h
  refine ⟨_,(zae (zsi rfl rfl K rfl rfl rfl (fun _ _=>(zaf (ps_if (zap op_eq (pv 5) (pe_un zfp zai) (zar _)) (zaf (zau (i:=6) sc__law_put.nd rfl (by first|left;rfl|right;rfl) (zbf (dvs:=[V.non]) M_Tree_put (by simp) T.cl_Tree (hr.mono (by decide)) passT (pv 0) (zaa (pv 1) (zaa (pv 2) (zaa (pv 3) (zaa (pv 4) zag))))))) (zaf (zau (i:=6) sc__law_put.nd rfl (by first|left;rfl|right;rfl) (zbf (dvs:=[]) M_Tree_put (by simp) T.cl_Tree (hr.mono (by decide)) passT (pv 0) (zaa (pv 1) (zaa (pv 2) (zaa (pv 3) (zaa (pv 4) (zaa (pv 5) zag))))))))))) (zgi K rfl T.xc_NoName rfl T.mg_NoName (fun _=>(zaf (zat zaq))) (zgi K rfl T.xc_Taken rfl T.mg_Taken (fun _=>(zaf (zat zaq))) (zgi K rfl T.xc_NoClass rfl T.mg_NoClass (fun _=>(zaf (zat zaq))) (zgi K rfl T.xc_NoPlace rfl T.mg_NoPlace (fun _=>(zaf (zat zaq))) (zgi K rfl T.xc_NoShare rfl T.mg_NoShare (fun _=>(zaf (zat zaq))) (zgi K rfl T.xc_NoLength rfl T.mg_NoLength (fun _=>(zaf (zat zaq))) zub))))))) (zae (ps_if (zap ziv (pv 6) zdy (zar _)) (zaf (zat zaq)) zas) (zaf (zat zaq)))),?_⟩
  show tSeq _ _ _ [some (.ref D.p),some (.str x),some (.str u),some (.str kd),some (.int s),some rm,none] H
  refine zad fun R hR=>?_
  unfold tTryM hkMs
  walk_at "rd"
  have hk:∀ (r:Rf) (e:Addr) (Hx:Hp) (σ:L2.St),Q (.str (dueW (some r))) Hx->hkM K [{ C:=c_NoName,i:=none,th:=tRet (tC (V.str (Str.ofString "name"))) },{ C:=c_Taken,i:=none,th:=tRet (tC (V.str (Str.ofString "taken"))) },{ C:=c_NoClass,i:=none,th:=tRet (tC (V.str (Str.ofString "class"))) },{ C:=c_NoPlace,i:=none,th:=tRet (tC (V.str (Str.ofString "place"))) },{ C:=c_NoShare,i:=none,th:=tRet (tC (V.str (Str.ofString "share"))) },{ C:=c_NoLength,i:=none,th:=tRet (tC (V.str (Str.ofString "length"))) }] { nx:=R,rt:=Q } e (r.at c_NoName c_Taken c_NoClass c_NoPlace c_NoShare c_NoLength) σ Hx:=fun r e Hx σ q=>by
   cases r with
   | name=>exact zgj T.sub_NoName_NoName (by unfold Hd.run; walk_at "rd"; exact q)
   | taken=>exact zda T.sub_Taken_NoName (zgj T.sub_Taken_Taken (by unfold Hd.run; walk_at "rd"; exact q))
   | cls=>exact zda T.sub_NoClass_NoName (zda T.sub_NoClass_Taken (zgj T.sub_NoClass_NoClass (by unfold Hd.run; walk_at "rd"; exact q)))
   | place=>exact zda T.sub_NoPlace_NoName (zda T.sub_NoPlace_Taken (zda T.sub_NoPlace_NoClass (zgj T.sub_NoPlace_NoPlace (by unfold Hd.run; walk_at "rd"; exact q))))
   | share=>exact zda T.sub_NoShare_NoName (zda T.sub_NoShare_Taken (zda T.sub_NoShare_NoClass (zda T.sub_NoShare_NoPlace (zgj T.sub_NoShare_NoShare (by unfold Hd.run; walk_at "rd"; exact q)))))
   | length=>exact zda T.sub_NoLength_NoName (zda T.sub_NoLength_Taken (zda T.sub_NoLength_NoClass (zda T.sub_NoLength_NoPlace (zda T.sub_NoLength_NoShare (zgj T.sub_NoLength_NoLength (by unfold Hd.run; walk_at "rd"; exact q))))))
  have post:∀ H',Q (.str (Str.ofString "put")) H'->R [some (.ref D.p),some (.str x),some (.str u),some (.str kd),some (.int s),some rm,some .non] H':=fun H' q=>hR _ _ (by
   clear hR
   refine zad fun R hR=>?_
   walk_at "rd"
   refine hR _ _ ?_
   walk_at "rd"
   exact q)
  clear hR
  obtain ⟨dx,fs,hp,ft⟩:=O.ex
  refine ⟨?_,ite2 (fun c=>?_) fun c=>?_⟩
  ·rcases hrm with z | ⟨r,z⟩ <;> rw [z]
  ·rw [if_pos c] at kx k
   refine zbp hp (ft.mis _ (by decide +kernel) (by decide +kernel) (by decide +kernel) (by decide +kernel) (by decide +kernel) (by decide +kernel)) ⟨D,x,u,kd,s,.non,rfl,O,W,F,xl,.inl rfl,fun r e1 H' s' e he=>⟨e,rfl,_,zab,hk r e _ _ (kx r e1 _ (s'.trans (zak he)))⟩,fun e1 un c n H' h1 h2 h3 h4 h5 h6 h7 h8 h9 h10 h11 h12 h13=>post _ (k e1 (D.put un c s n) H' ⟨un,c,n,rfl,h1,h2,h3,h4,h5,h6,h7,h8,h9,h10,h11,h12,h13⟩)⟩
  ·rw [if_neg c] at kx k
   refine zbp hp (ft.mis _ (by decide +kernel) (by decide +kernel) (by decide +kernel) (by decide +kernel) (by decide +kernel) (by decide +kernel)) ⟨D,x,u,kd,s,rm,rfl,O,W,F,xl,hrm,fun r e1 H' s' e he=>⟨e,rfl,_,zab,hk r e _ _ (kx r e1 _ (s'.trans (zak he)))⟩,fun e1 un c n H' h1 h2 h3 h4 h5 h6 h7 h8 h9 h10 h11 h12 h13=>post _ (k e1 (D.put un c s n) H' ⟨un,c,n,rfl,h1,h2,h3,h4,h5,h6,h7,h8,h9,h10,h11,h12,h13⟩)⟩
def zra (C:Cl):Sp:=fun vs H Q _=>∃ (D:TD) (x u kd:Str) (s:Int) (rm:V) (r:Rf),vs = [.ref D.p,.str x,.str u,.str kd,.int s,rm]/\TrOk C H D/\D.Wf/\D.full/\StOk 10000 x/\(rm = .non\/∃ r,rm = .int r)/\dueP D x u kd s rm=some r/\∀ H',Same H H'->Q (.bl true) H'
theorem zjn (T:Txt K mg c_WheelError c_NoName c_Taken c_NoClass c_NoPlace c_NoShare c_NoLength c_Members c_Chooser c_Starts c_Rounds c_Node c_Tree):Def P w K mg base (CXX P w) 8 "_law_caught" ["_law_tree", "_law_name_here", "_law_above", "_law_kind", "_law_share", "_law_room"] (zra (⟨c_Node,c_Starts,c_Rounds,c_Members,c_Node,c_Tree⟩:Cl)):=by
 have M_Tree_put:=zis (P:=P) (w:=w) (base:=base) T
 have D__law_other:=zkw (P:=P) (w:=w) (base:=base) T
 refine T.src__law_caught.okN (k:=7) sc__law_caught (fun vs H Q E h=>?_) (fun f cdv A outer s H vs Q E hr h=>?_)
 ·obtain ⟨D,x,u,kd,s,rm,r,rfl,_⟩:=h
  rfl
 ·obtain ⟨D,x,u,kd,s,rm,r,rfl,O,W,F,xl,hrm,e1,k⟩:=h
  refine ⟨_,(zae (zqh (i:=6) rfl rfl K rfl rfl rfl T.xc_WheelError rfl T.mg_WheelError sc__law_caught.nd rfl rfl (fun _ _=>(zaf (zbj (zbf (dvs:=[]) M_Tree_put (by simp) T.cl_Tree (hr.mono (by decide)) passT (pv 0) (zaa (pv 1) (zaa (pv 2) (zaa (pv 3) (zaa (pv 4) (zaa (pv 5) zag))))))))) (fun _=>(zaf (zat (zqj D__law_other (hr.mark) rfl (zaa (pv 6) (zaa zai zag))))))) (zaf (zat pe_bl))),?_⟩
  show tSeq _ _ _ [some (.ref D.p),some (.str x),some (.str u),some (.str kd),some (.int s),some rm,none] H
  have kt:∀ r:Rf,∃ b1 b2 b3 b4 b5 b6,Kits K c_NoName c_Taken c_NoClass c_NoPlace c_NoShare c_NoLength (r.at c_NoName c_Taken c_NoClass c_NoPlace c_NoShare c_NoLength) b1 b2 b3 b4 b5 b6:=fun r=>by
   cases r with
   | name=>exact ⟨true,false,false,false,false,false,T.xc_NoName,T.kit_NoName_NoName,T.kit_NoName_Taken,T.kit_NoName_NoClass,T.kit_NoName_NoPlace,T.kit_NoName_NoShare,T.kit_NoName_NoLength,T.kit_NoName_ValueError,rfl⟩
   | taken=>exact ⟨false,true,false,false,false,false,T.xc_Taken,T.kit_Taken_NoName,T.kit_Taken_Taken,T.kit_Taken_NoClass,T.kit_Taken_NoPlace,T.kit_Taken_NoShare,T.kit_Taken_NoLength,T.kit_Taken_ValueError,rfl⟩
   | cls=>exact ⟨false,false,true,false,false,false,T.xc_NoClass,T.kit_NoClass_NoName,T.kit_NoClass_Taken,T.kit_NoClass_NoClass,T.kit_NoClass_NoPlace,T.kit_NoClass_NoShare,T.kit_NoClass_NoLength,T.kit_NoClass_ValueError,rfl⟩
   | place=>exact ⟨false,false,false,true,false,false,T.xc_NoPlace,T.kit_NoPlace_NoName,T.kit_NoPlace_Taken,T.kit_NoPlace_NoClass,T.kit_NoPlace_NoPlace,T.kit_NoPlace_NoShare,T.kit_NoPlace_NoLength,T.kit_NoPlace_ValueError,rfl⟩
   | share=>exact ⟨false,false,false,false,true,false,T.xc_NoShare,T.kit_NoShare_NoName,T.kit_NoShare_Taken,T.kit_NoShare_NoClass,T.kit_NoShare_NoPlace,T.kit_NoShare_NoShare,T.kit_NoShare_NoLength,T.kit_NoShare_ValueError,rfl⟩
   | length=>exact ⟨false,false,false,false,false,true,T.xc_NoLength,T.kit_NoLength_NoName,T.kit_NoLength_Taken,T.kit_NoLength_NoClass,T.kit_NoLength_NoPlace,T.kit_NoLength_NoShare,T.kit_NoLength_NoLength,T.kit_NoLength_ValueError,rfl⟩
  have sw:∀ r:Rf,PySem.W.subIn K (.ref (r.at c_NoName c_Taken c_NoClass c_NoPlace c_NoShare c_NoLength)) (.ref c_WheelError)=some true:=fun r=>by
   cases r with
   | name=>exact T.sub_NoName_WheelError
   | taken=>exact T.sub_Taken_WheelError
   | cls=>exact T.sub_NoClass_WheelError
   | place=>exact T.sub_NoPlace_WheelError
   | share=>exact T.sub_NoShare_WheelError
   | length=>exact T.sub_NoLength_WheelError
  refine zad fun R hR=>?_
  walk_at "rd"
  obtain ⟨dx,fs,hp,ft⟩:=O.ex
  refine zbp hp (ft.mis _ (by decide +kernel) (by decide +kernel) (by decide +kernel) (by decide +kernel) (by decide +kernel) (by decide +kernel)) ⟨D,x,u,kd,s,rm,rfl,O,W,F,xl,hrm,fun r' e2 H' s' e he=>?_,fun e2=>by rw [e1] at e2; cases e2⟩
  rw [e1] at e2
  cases e2
  obtain ⟨b1,b2,b3,b4,b5,b6,kts⟩:=kt r
  exact ⟨e,rfl,_,zab,sw r,e,_,b1,b2,b3,b4,b5,b6,rfl,zab,kts,fun H2 s2=>k H2 ((s'.trans (zak he)).trans s2)⟩
structure WdR (H:Hp) (wd:Addr) (ws:List WE):Prop where
 hd:Rd H wd (.dK (weK ws))
 ht:∀ w∈ws,H w.q=some (.tup [.str w.ab,.str w.kd])
theorem WdR.same {H H':Hp} {wd:Addr} {ws:List WE} (h:WdR H wd ws) (s:Same H H'):WdR H' wd ws:=⟨h.hd.elim (fun z=>.inl (s _ _ z)) fun ⟨o,z⟩=>.inr ⟨o,s _ _ z⟩,fun w hw=>s _ _ (h.ht w hw)⟩
theorem WdOk.r {H:Hp} {wd:Addr} {ws:List WE} (h:WdOk H wd ws):WdR H wd ws:=⟨.inl h.hd,h.ht⟩
theorem zpr {H:Hp} {wd:Addr} {ws:List WE} {x:Str} {w:WE} (O:WdR H wd ws) (h:wfn ws x=some w):DGet H wd (.str x) (some (.ref w.q)):=by
 refine .inl ⟨_,Sum.inr x,O.hd,rfl,?_⟩
 rw [zfo,h]; rfl
def zmt:Sp:=fun vs H Q _=>∃ (wd:Addr) (ws:List WE) (u:Str),vs = [.ref wd,.str u]/\WdR H wd ws/\ws.length<=60/\∀ l H',Same H H'->H l=none->H' l=some (.lst (((ws.filter fun w=>decide (w.ab=u)).map (·.nm)).map V.str))->Q (.ref l) H'
theorem zgv (T:Txt K mg c_WheelError c_NoName c_Taken c_NoClass c_NoPlace c_NoShare c_NoLength c_Members c_Chooser c_Starts c_Rounds c_Node c_Tree):Def P w K mg base (CXX P w) 1 "_law_below" ["_law_world", "_law_above"] zmt:=by
 refine T.src__law_below.okN (k:=0) zjj (fun vs H Q E h=>?_) (fun f cdv A outer s H vs Q E hr h=>?_)
 ·obtain ⟨wd,ws,u,rfl,_⟩:=h
  rfl
 ·obtain ⟨wd,ws,u,rfl,O,wl,k⟩:=h
  refine ⟨_,(zaf (zat (zpd (zsk (pe_lc ["_law_name_here", "_law_place"] [("_law_above", 1)] rfl (by with_unfolding_all rfl) (by decide +kernel) rfl (by decide +kernel) (by exact ⟨rfl,True.intro⟩) (by with_unfolding_all rfl) ⟨⟨rfl,rfl,rfl⟩,True.intro⟩ (zqo (pv 0)) (fun _ _ _=>(zlh (n:=2) K rfl rfl (zey (zdu (i:=0) (show (["_law_name_here", "_law_place", "_law_above"]:List Str).Nodup from by decide +kernel) rfl (by first|left;rfl|right;rfl)) (zey (zdu (i:=1) (show (["_law_name_here", "_law_place", "_law_above"]:List Str).Nodup from by decide +kernel) rfl (by first|left;rfl|right;rfl)) zla)))) (fun _ _ _=>(zja (zap op_eq (pe_ix (zge K rfl) (pv 1) zai (fun _ _=>rfl)) (pv 2) (zar _)))) (fun _ _ _=>(pv 0)))) (pe_lc ["_law_name_here", "_law_place"] [("_law_above", 1)] rfl (by with_unfolding_all rfl) (by decide +kernel) rfl (by decide +kernel) (by exact ⟨rfl,True.intro⟩) (by with_unfolding_all rfl) ⟨⟨rfl,rfl,rfl⟩,True.intro⟩ (zpj (pv 0)) (fun _ _ _=>(zlh (n:=2) K rfl rfl (zey (zdu (i:=0) (show (["_law_name_here", "_law_place", "_law_above"]:List Str).Nodup from by decide +kernel) rfl (by first|left;rfl|right;rfl)) (zey (zdu (i:=1) (show (["_law_name_here", "_law_place", "_law_above"]:List Str).Nodup from by decide +kernel) rfl (by first|left;rfl|right;rfl)) zla)))) (fun _ _ _=>(zja (zap op_eq (pe_ix (zge K rfl) (pv 1) zai (fun _ _=>rfl)) (pv 2) (zar _)))) (fun _ _ _=>(pv 0)))))),?_⟩
  show tRet _ _ [some (.ref wd),some (.str u)] H
  have lk:(weK ws).length=ws.length:=List.length_map _
  walk_at "rd"
  rcases O.hd with hd | ⟨o,hd⟩
  ·refine .inl ?_
   unfold tThaw
   walk_at "rd"
   unfold zrn
   walk_at "rd"
   refine ⟨_,hd,fun o L hL=>?_⟩
   have nL:L≠wd:=fun z=>by rw [z,zab] at hL; cases hL
   have hL0:H L=none:=by rw [zah nL] at hL; exact hL
   have nq:∀ w∈ws,w.q≠wd:=fun w0 win z=>by have ht:=O.ht w0 win; rw [z,hd] at ht; cases ht
   refine zir (fun i τ H'=>(∃ v0 v1,τ = [v0,v1,some (.str u)])/\Same (upd H wd (.frz o (.dK (weK ws)))) H'/\H' L=some (.lst ((((ws.take i).filter fun w=>decide (w.ab=u)).map (·.nm)).map V.str))) ⟨⟨none,none,rfl⟩,zak hL,zab⟩ (fun i τ H' _ ⟨_,sm,_⟩=>sm _ _ zab) ?_ ?_
   ·rintro i kv τ H6 p hkv ⟨⟨v0,v1,rfl⟩,sm,hLl⟩ hp
    obtain ⟨w0,hw,rfl⟩:∃ w0,ws[i]? = some w0/\((Sum.inr w0.nm:Key),V.ref w0.q)=kv:=by
     unfold weK at hkv
     rw [List.getElem?_map] at hkv
     cases e:ws[i]? with
     | none=>rw [e] at hkv; cases hkv
     | some p=>rw [e] at hkv; exact ⟨p,rfl,Option.some.inj hkv⟩
    have win:=List.mem_of_getElem? hw
    have sn:=zak (o:=.tup [kV (Sum.inr w0.nm:Key),V.ref w0.q]) hp
    have sm:=sm.trans sn
    have hLl:=sn _ _ hLl
    refine ⟨p,_,rfl,.of zab,rfl,?_⟩
    generalize upd H6 p (.tup [kV (Sum.inr w0.nm:Key),V.ref w0.q])=H7 at sm hLl ⊢
    walk_at "rd"
    have ht:H7 w0.q=some (.tup [.str w0.ab,.str w0.kd]):=sm _ _ (by rw [zah (nq w0 win)]; exact O.ht w0 win)
    have ta:(ws.take (i+1)).filter (fun w=>decide (w.ab=u))=(ws.take i).filter (fun w=>decide (w.ab=u))++(if decide (w0.ab=u)=true then [w0] else []):=by
     rw [zhb hw,List.filter_append,List.filter_cons,List.filter_nil]
    refine zhi (.of ht) (v:=.str w0.ab) rfl ?_
    walk_at "rd"
    refine ite2 (fun c=>?_) fun c=>⟨sm,?_⟩
    ·refine ⟨_,hLl,zeu ?_,fun b u' e=>?_,?_⟩
     ·rw [List.length_map,List.length_map]
      have:=List.length_filter_le (fun w:WE=>decide (w.ab=u)) (ws.take i)
      rw [List.length_take] at this
      omega
     ·rw [zah (zan e hL)]; exact sm _ _ e
     ·rw [zab,ta,if_pos (by simp [c]),List.map_append,List.map_append]; rfl
    ·rw [ta,if_neg (by simp [c]),List.append_nil]; exact hLl
   ·rintro τ H6 ⟨_,sm,hLl⟩
    rw [lk,List.take_length] at hLl
    refine ⟨wd,⟨_,hd⟩,o,_,sm _ _ zab,?_⟩
    refine k L _ (fun b u' e=>?_) hL0 (by rw [zah nL]; exact hLl)
    by_cases z:b=wd
    ·subst z
     rw [hd] at e; cases e
     exact zab
    ·rw [zah z]
     exact sm _ _ (by rw [zah z]; exact e)
  ·refine .inr ?_
   unfold zpi
   walk_at "rd"
   refine ⟨o,_,hd,fun L hL=>?_⟩
   refine zir (fun i τ H'=>(∃ v0 v1,τ = [v0,v1,some (.str u)])/\Same H H'/\H' L=some (.lst ((((ws.take i).filter fun w=>decide (w.ab=u)).map (·.nm)).map V.str))) ⟨⟨none,none,rfl⟩,zak hL,zab⟩ (fun i τ H' _ ⟨_,sm,_⟩=>sm _ _ hd) ?_ ?_
   ·rintro i kv τ H6 p hkv ⟨⟨v0,v1,rfl⟩,sm,hLl⟩ hp
    obtain ⟨w0,hw,rfl⟩:∃ w0,ws[i]? = some w0/\((Sum.inr w0.nm:Key),V.ref w0.q)=kv:=by
     unfold weK at hkv
     rw [List.getElem?_map] at hkv
     cases e:ws[i]? with
     | none=>rw [e] at hkv; cases hkv
     | some p=>rw [e] at hkv; exact ⟨p,rfl,Option.some.inj hkv⟩
    have win:=List.mem_of_getElem? hw
    have sn:=zak (o:=.tup [kV (Sum.inr w0.nm:Key),V.ref w0.q]) hp
    have sm:=sm.trans sn
    have hLl:=sn _ _ hLl
    refine ⟨p,_,rfl,.of zab,rfl,?_⟩
    generalize upd H6 p (.tup [kV (Sum.inr w0.nm:Key),V.ref w0.q])=H7 at sm hLl ⊢
    walk_at "rd"
    have ht:H7 w0.q=some (.tup [.str w0.ab,.str w0.kd]):=sm _ _ (O.ht w0 win)
    have ta:(ws.take (i+1)).filter (fun w=>decide (w.ab=u))=(ws.take i).filter (fun w=>decide (w.ab=u))++(if decide (w0.ab=u)=true then [w0] else []):=by
     rw [zhb hw,List.filter_append,List.filter_cons,List.filter_nil]
    refine zhi (.of ht) (v:=.str w0.ab) rfl ?_
    walk_at "rd"
    refine ite2 (fun c=>?_) fun c=>⟨sm,?_⟩
    ·refine ⟨_,hLl,zeu ?_,fun b u' e=>?_,?_⟩
     ·rw [List.length_map,List.length_map]
      have:=List.length_filter_le (fun w:WE=>decide (w.ab=u)) (ws.take i)
      rw [List.length_take] at this
      omega
     ·rw [zah (zan e hL)]; exact sm _ _ e
     ·rw [zab,ta,if_pos (by simp [c]),List.map_append,List.map_append]; rfl
    ·rw [ta,if_neg (by simp [c]),List.append_nil]; exact hLl
   ·rintro τ H6 ⟨_,sm,hLl⟩
    rw [lk,List.take_length] at hLl
    exact k L _ sm hL hLl
def znj (C:Cl):Sp:=fun vs H Q _=>∃ (D:TD) (x:Str),vs = [.ref D.p,.str x]/\TrOk C H D/\D.Wf/\fndN D.ns x=none/\∀ H',Same H H'->Q (.bl true) H'
theorem zhy (T:Txt K mg c_WheelError c_NoName c_Taken c_NoClass c_NoPlace c_NoShare c_NoLength c_Members c_Chooser c_Starts c_Rounds c_Node c_Tree):Def P w K mg base (CXX P w) 4 "_law_stranger" ["_law_tree", "_law_name_here"] (znj (⟨c_Node,c_Starts,c_Rounds,c_Members,c_Node,c_Tree⟩:Cl)):=by
 have M_Tree_way:=zit (P:=P) (w:=w) (base:=base) T
 have M_Tree_below:=zex (P:=P) (w:=w) (base:=base) T
 refine T.src__law_stranger.okN (k:=3) sc__law_stranger (fun vs H Q E h=>?_) (fun f cdv A outer s H vs Q E hr h=>?_)
 ·obtain ⟨D,x,rfl,_⟩:=h
  rfl
 ·obtain ⟨D,x,rfl,O,W,hx,k⟩:=h
  refine ⟨_,(zae (zau (i:=2) sc__law_stranger.nd rfl (by first|left;rfl|right;rfl) (zdg zag)) (zae (zrk rfl rfl K rfl rfl rfl T.xc_NoClass rfl T.mg_NoClass (fun _ _=>(zaf (zbj (zmo K rfl PySem.F.plainAttrs_list PySem.F.slot_list_append PySem.F.type_list_append zcx (pv 2) (zaa (zbf (dvs:=[]) M_Tree_way (by simp) T.cl_Tree (hr.mono (by decide)) passT (pv 0) (zaa (pv 1) zag)) zag))))) (fun _=>(zaf (zbj (zmo K rfl PySem.F.plainAttrs_list PySem.F.slot_list_append PySem.F.type_list_append zcx (pv 2) (zaa pe_bl zag)))))) (zae (zrk rfl rfl K rfl rfl rfl T.xc_NoClass rfl T.mg_NoClass (fun _ _=>(zaf (zbj (zmo K rfl PySem.F.plainAttrs_list PySem.F.slot_list_append PySem.F.type_list_append zcx (pv 2) (zaa (zbf (dvs:=[]) M_Tree_below (by simp) T.cl_Tree (hr.mono (by decide)) passT (pv 0) (zaa (pv 1) zag)) zag))))) (fun _=>(zaf (zbj (zmo K rfl PySem.F.plainAttrs_list PySem.F.slot_list_append PySem.F.type_list_append zcx (pv 2) (zaa pe_bl zag)))))) (zaf (zat (zhe (zor K rfl hr.units) (pv 2) (zdg (zaa pe_bl (zaa pe_bl zag))) (zar _))))))),?_⟩
  show tSeq _ _ _ [some (.ref D.p),some (.str x),none] H
  refine zad fun R hR=>?_
  walk_at "rd"
  intro l hl
  have s0:=zak (o:=.lst []) hl
  refine hR _ _ ?_
  clear hR
  have h0:upd H l (.lst []) l=some (.lst []):=zab
  refine (show tSeq _ _ _ [some (.ref D.p),some (.str x),some (.ref l)] (upd H l (.lst [])) from ?_)
  generalize upd H l (.lst [])=H0 at s0 h0 ⊢
  have O0:=O.same s0
  obtain ⟨dx,fs,hp,ft⟩:=O0.ex
  refine zad fun R hR=>?_
  walk_at "rd"
  refine ⟨zeq h0,?_⟩
  refine zbp hp (ft.mis _ (by decide +kernel) (by decide +kernel) (by decide +kernel) (by decide +kernel) (by decide +kernel) (by decide +kernel)) ⟨D,x,rfl,O0,W,fun _ e he=>?_,fun c ys U=>?_⟩
  ·have s1:=s0.trans (zak (o:=excO e c_NoClass none false) he)
   have h1:=zak (o:=excO e c_NoClass none false) he _ _ h0
   refine ⟨e,rfl,_,zab,T.sub_NoClass_NoClass,?_⟩
   generalize upd H0 e (excO e c_NoClass none false)=H1 at s1 h1 ⊢
   refine ⟨zeq h1,zhk h1 (by simp) (hR _ _ ?_)⟩
   clear hR
   have s2:Same H (upd H1 l (.lst ([]++[.bl true]))):=fun b o e=>by rw [zah (zan e hl)]; exact s1 _ _ e
   have h2:upd H1 l (.lst ([]++[.bl true])) l=some (.lst [.bl true]):=zab
   refine (show tSeq _ _ _ [some (.ref D.p),some (.str x),some (.ref l)] (upd H1 l (.lst ([]++[.bl true]))) from ?_)
   generalize upd H1 l (.lst ([]++[.bl true]))=H2 at s2 h2 ⊢
   have O2:=O.same s2
   obtain ⟨dx,fs,hp,ft⟩:=O2.ex
   refine zad fun R hR=>?_
   walk_at "rd"
   refine ⟨zeq h2,?_⟩
   refine zbp hp (ft.mis _ (by decide +kernel) (by decide +kernel) (by decide +kernel) (by decide +kernel) (by decide +kernel) (by decide +kernel)) ⟨D,x,rfl,O2,W,fun _ e he=>?_,fun c=>absurd hx c⟩
   have s3:=s2.trans (zak (o:=excO e c_NoClass none false) he)
   have h3:=zak (o:=excO e c_NoClass none false) he _ _ h2
   refine ⟨e,rfl,_,zab,T.sub_NoClass_NoClass,?_⟩
   generalize upd H2 e (excO e c_NoClass none false)=H3 at s3 h3 ⊢
   refine ⟨zeq h3,zhk h3 (by simp) (hR _ _ ?_)⟩
   clear hR
   have s4:Same H (upd H3 l (.lst ([.bl true]++[.bl true]))):=fun b o e=>by rw [zah (zan e hl)]; exact s3 _ _ e
   have h4:upd H3 l (.lst ([.bl true]++[.bl true])) l=some (.lst [.bl true,.bl true]):=zab
   walk_at "rd"
   intro p5 f5
   have s5:=zak (o:=.lst [.bl true,.bl true]) f5
   exact zos (d:=.list [.bool true,.bool true]) (.lst (.of (s5 _ _ h4)) (.cons (.bl _) (.cons (.bl _) .nil))) (.lst (.of zab) (.cons (.bl _) (.cons (.bl _) .nil))) (by decide) (k _ (s4.trans s5))
  ·obtain ⟨n,hn⟩:=U.fnd
   rw [hx] at hn; cases hn
def ztb (C:Cl):Sp:=fun vs H Q _=>∃ (D:TD) (wd:Addr) (ws:List WE),vs = [.ref D.p,.ref wd]/\TrOk C H D/\D.Wf/\WdOk H wd ws/\Mt D ws/\wd ∉ D.foot/\ws.length<=60/\∀ H',Q (.bl true) H'
theorem zgx (T:Txt K mg c_WheelError c_NoName c_Taken c_NoClass c_NoPlace c_NoShare c_NoLength c_Members c_Chooser c_Starts c_Rounds c_Node c_Tree):Def P w K mg base (CXX P w) 4 "_law_all_stand" ["_law_tree", "_law_world"] (ztb (⟨c_Node,c_Starts,c_Rounds,c_Members,c_Node,c_Tree⟩:Cl)):=by
 have M_Tree_way:=zit (P:=P) (w:=w) (base:=base) T
 have M_Tree_below:=zex (P:=P) (w:=w) (base:=base) T
 have D__law_below:=zgv (P:=P) (w:=w) (base:=base) T
 refine T.src__law_all_stand.okN (k:=3) sc__law_all_stand (fun vs H Q E h=>?_) (fun f cdv A outer s H vs Q E hr h=>?_)
 ·obtain ⟨D,wd,ws,rfl,_⟩:=h
  rfl
 ·obtain ⟨D,wd,ws,rfl,O,W,G,M,nw,wl,k⟩:=h
  refine ⟨_,(zae (zsj PassesOwn.never rfl (pv 1) (zlh (n:=2) K rfl rfl (zey (zdu (i:=2) sc__law_all_stand.nd rfl (by first|left;rfl|right;rfl)) (zey (zdu (i:=3) sc__law_all_stand.nd rfl (by first|left;rfl|right;rfl)) zla))) (zae (zau (i:=4) sc__law_all_stand.nd rfl (by first|left;rfl|right;rfl) (zdg (zaa (pv 2) zag))) (zae (zgz PassesOwn.never (zap op_ne (pe_ix (zge K rfl) (zem (hu_of hr) (pv 1) (pe_ix (zav K rfl) (pv 4) zai (fun _ _=>rfl)) (fun _ _=>rfl)) zai (fun _ _=>rfl)) zaq (zar _)) (zaf (zbj (pe_bm PySem.F.plainAttrs_list PySem.F.slot_list_insert PySem.F.type_list_insert zoz (pv 4) (zaa zai (zaa (pe_ix (zge K rfl) (zem (hu_of hr) (pv 1) (pe_ix (zav K rfl) (pv 4) zai (fun _ _=>rfl)) (fun _ _=>rfl)) zai (fun _ _=>rfl)) zag)))))) (zae (zau (i:=5) sc__law_all_stand.nd rfl (by first|left;rfl|right;rfl) (zbf (dvs:=[]) M_Tree_way (by simp) T.cl_Tree (hr.mono (by decide)) passN (pv 0) (zaa (pv 2) zag))) (zae (ps_if (PW.pt (pw_or (zhd (zjo (zbi (zgs K rfl) rfl T.no_isinstance boot_isinstance (zaa (pv 5) (zaa (zkz (v:=.ty "list") rfl T.no_list boot_list rfl) zag))))) (pw_or (zap (zet K rfl hr.units) (pv 5) (pv 4) (zar _)) (zgo (zap (zet K rfl hr.units) (zbf (dvs:=[]) M_Tree_below (by simp) T.cl_Tree (hr.mono (by decide)) passN (pv 0) (zaa (pv 2) zag)) (zaw D__law_below (hr.mono (by decide)) rfl passN (zaa (pv 1) (zaa (pv 2) zag))) (zar _)))))) (zaf (zat pe_bl)) zas) (zae (zbj (pe_bm PySem.F.plainAttrs_list PySem.F.slot_list_append PySem.F.type_list_append zcx (pv 5) (zaa zaq zag))) (zaf (ps_if (zap (zet K rfl hr.units) (zbf (dvs:=[]) M_Tree_way (by simp) T.cl_Tree (hr.mono (by decide)) passN (pv 0) (zaa (pv 2) zag)) (pv 4) (zar _)) (zaf (zat pe_bl)) zas)))))))) (zae (zau (i:=5) sc__law_all_stand.nd rfl (by first|left;rfl|right;rfl) (zbf (dvs:=[]) M_Tree_below (by simp) T.cl_Tree (hr.mono (by decide)) passN (pv 0) (zaa zaq zag))) (zae (ps_if (PW.pt (pw_or (zhd (zjo (zbi (zgs K rfl) rfl T.no_isinstance boot_isinstance (zaa (pv 5) (zaa (zkz (v:=.ty "list") rfl T.no_list boot_list rfl) zag))))) (zgo (zap (zet K rfl hr.units) (pv 5) (zaw D__law_below (hr.mono (by decide)) rfl passN (zaa (pv 1) (zaa zaq zag))) (zar _))))) (zaf (zat pe_bl)) zas) (zae (zbj (pe_bm PySem.F.plainAttrs_list PySem.F.slot_list_append PySem.F.type_list_append zcx (pv 5) (zaa zaq zag))) (zaf (zat (zhe (zor K rfl hr.units) (zbf (dvs:=[]) M_Tree_below (by simp) T.cl_Tree (hr.mono (by decide)) passN (pv 0) (zaa zaq zag)) (zaw D__law_below (hr.mono (by decide)) rfl passN (zaa (pv 1) (zaa zaq zag))) (zar _)))))))),?_⟩
  show tSeq _ _ _ [some (.ref D.p),some (.ref wd),none,none,none,none] H
  have kok:∀ u:Str,∀ z∈kids D.ns u,PyData.strOk z=true:=fun u z hz=>by
   unfold kids at hz
   obtain ⟨n,hn,rfl⟩:=List.mem_map.mp hz
   exact (W.sok n (List.mem_filter.mp hn).1).1
  refine zad fun R hR=>?_
  refine ⟨_,rfl,wd,_,rfl,G.hd,fun o=>?_⟩
  have OF:=O.other (o':=.frz o (.dK (weK ws))) nw G.hd (by intro _ z; cases z)
  have nq:∀ w∈ws,w.q≠wd:=fun w0 win z=>by have ht:=G.ht w0 win; rw [z,G.hd] at ht; cases ht
  have GF:WdR (upd H wd (.frz o (.dK (weK ws)))) wd ws:=⟨.inr ⟨o,zab⟩,fun w hw=>by rw [zah (nq w hw)]; exact G.ht w hw⟩
  have wF:upd H wd (.frz o (.dK (weK ws))) wd=some (.frz o (.dK (weK ws))):=zab
  generalize upd H wd (.frz o (.dK (weK ws)))=HF at OF GF wF ⊢
  refine zpc (kvs:=weK ws) (fun i σ H'=>(∃ v2 v3 v4 v5,σ = [some (.ref D.p),some (.ref wd),v2,v3,v4,v5])/\Same HF H') ⟨⟨none,none,none,none,rfl⟩,Same.refl _⟩ (fun i σ H' _ h=>h.2 _ _ wF) ?_ ?_
  ·rintro i kv σ H6 p hkv ⟨⟨v2,v3,v4,v5,rfl⟩,sm⟩ hp
   obtain ⟨w0,hw,rfl⟩:∃ w0,ws[i]? = some w0/\((Sum.inr w0.nm:Key),V.ref w0.q)=kv:=by
    unfold weK at hkv
    rw [List.getElem?_map] at hkv
    cases e:ws[i]? with
    | none=>rw [e] at hkv; cases hkv
    | some p=>rw [e] at hkv; exact ⟨p,rfl,Option.some.inj hkv⟩
   have win:=List.mem_of_getElem? hw
   have sm:=sm.trans (zak (o:=.tup [kV (Sum.inr w0.nm:Key),V.ref w0.q]) hp)
   refine ⟨p,_,rfl,.of zab,rfl,_,_,rfl,_,_,rfl,rfl,?_⟩
   generalize upd H6 p (.tup [kV (Sum.inr w0.nm:Key),V.ref w0.q])=H7 at sm ⊢
   show tSeq _ _ _ [some (.ref D.p),some (.ref wd),some (.str w0.nm),some (.ref w0.q),v4,v5] H7
   refine zje fun N hN=>?_
   have nr:w0.nm≠road:=fun z=>by
    have h0:=M.noroad W
    unfold wfn at h0
    rw [List.find?_eq_none] at h0
    exact h0 w0 win (decide_eq_true z)
   obtain ⟨n0,hn0⟩:∃ n0,fndN D.ns w0.nm=some n0:=by
    rcases M.fnd W nr with ⟨_,h2⟩ | ⟨n,_,h1,_⟩
    ·unfold wfn at h2
     rw [List.find?_eq_none] at h2
     exact absurd (decide_eq_true rfl) (h2 w0 win)
    ·exact ⟨n,h1⟩
   obtain ⟨nin,ne⟩:=zdp hn0
   obtain ⟨ys,U,yl⟩:=W.up n0 nin
   rw [ne] at U
   refine zad fun R hR=>?_
   walk_at "rd"
   intro l1 f1
   refine hR _ _ ?_
   clear hR
   have s1:=sm.trans (zak (o:=.lst [.str w0.nm]) f1)
   have h1:upd H7 l1 (.lst [.str w0.nm]) l1=some (.lst ([w0.nm].map V.str)):=zab
   have fl1:HF l1=none:=by
    cases z:HF l1 with
    | none=>rfl
    | some o=>rw [sm _ _ z] at f1; cases f1
   refine (show tSeq _ _ _ [some (.ref D.p),some (.ref wd),some (.str w0.nm),some (.ref w0.q),some (.ref l1),v5] (upd H7 l1 (.lst [.str w0.nm])) from ?_)
   generalize upd H7 l1 (.lst [.str w0.nm])=H8 at s1 h1 ⊢
   refine zad fun R hR=>?_
   have up_on:∀ {z:Str} {us:List Str},z≠road->Up D.ns z us->∃ w us',wfn ws z=some w/\us=z :: us'/\Up D.ns w.ab us':=fun {z us} hz Uz=>by
    rcases M.fnd W hz with ⟨q,_⟩ | ⟨n,w,q1,q2,nw⟩
    ·obtain ⟨n,hn⟩:=Uz.fnd
     rw [q] at hn; cases hn
    ·cases Uz with
     | top r1 r2 =>
      rw [q1] at r1; cases r1
      rw [nw.2.1] at r2; cases r2
     | on r1 r2 r3 =>
      rw [q1] at r1; cases r1
      rw [nw.2.1] at r2; cases r2
      exact ⟨w,_,q2,rfl,r3⟩
   refine zln (fun m σ H'=>∃ (z:Str) (zs us:List Str),σ = [some (.ref D.p),some (.ref wd),some (.str w0.nm),some (.ref w0.q),some (.ref l1),v5]/\Same HF H'/\H' l1=some (.lst ((z :: zs).map V.str))/\Up D.ns z us/\ys=zs.reverse++us/\z≠road/\m=us.length) ⟨w0.nm,[],ys,rfl,s1,h1,U,rfl,nr,rfl⟩ ?_
   rintro m σ H9 ⟨z,zs,us,rfl,s9,h9,Uz,ey,hz,rfl⟩
   obtain ⟨w1,us',hw1,eu,U1⟩:=up_on hz Uz
   have G9:=GF.same s9
   have e0:atI ((z :: zs).map V.str) 0=some (.str z):=zes (j:=0) rfl
   by_cases c:w1.ab=road
   ·refine ⟨false,fun Q hQ=>?_,fun z=>(by cases z),fun _=>hR _ _ ?_⟩
    ·walk_at "rd"
     refine zgr (.of h9) e0 ⟨_,zpr G9 hw1,?_⟩
     refine zhi (.of (G9.ht w1 (zhw hw1).1)) (v:=.str w1.ab) rfl ?_
     rw [show decide (V.str w1.ab=V.str (Str.ofString "road"))=true from decide_eq_true (by rw [c]; rfl)]
     exact ⟨rfl,hQ⟩
    ·clear hR
     have ey2:ys.reverse.tail=z :: zs:=by
      have:us' = [road]:=by
       rw [c] at U1
       cases U1 with
       | top _ _=>rfl
       | on r1 r2 _ =>
        obtain ⟨n,hn,ha,_⟩:=W.rdN
        rw [hn] at r1; cases r1
        rw [ha] at r2; cases r2
      rw [ey,eu,this]
      simp
     have oky:∀ x∈z :: zs,PyData.strOk x=true:=fun x hx=>by
      have:x∈ys:=by
       rw [<- ey2] at hx
       exact List.mem_reverse.mp (List.mem_of_mem_tail hx)
      obtain ⟨n,hn⟩:=U.mem x this
      obtain ⟨q1,q2⟩:=zdp hn
      exact q2 ▸ (W.sok n q1).1
     have O9:=OF.same s9
     obtain ⟨dx,fs,hp9,ft⟩:=O9.ex
     refine zad fun R hR=>?_
     walk_at "rd"
     refine zbp hp9 (ft.mis _ (by decide +kernel) (by decide +kernel) (by decide +kernel) (by decide +kernel) (by decide +kernel) (by decide +kernel)) ⟨D,w0.nm,rfl,O9,W,fun q=>?_,fun _ ys' U' l2 H10 s10 fl2 h2=>hR _ _ ?_⟩
     ·rcases q with q | q
      ·exact absurd q nr
      ·rw [hn0] at q; cases q
     clear hR
     rw [<- U.det U',ey2] at h2
     have n21:l2≠l1:=fun z=>by rw [z,h9] at fl2; cases fl2
     have fF2:HF l2=none:=by
      cases z:HF l2 with
      | none=>rfl
      | some o=>rw [s9 _ _ z] at fl2; cases fl2
     have h9:=s10 _ _ h9
     have s10:=s9.trans s10
     clear s9 G9 O9 hp9
     have O10:=OF.same s10
     obtain ⟨dx,fs,hp10,ft⟩:=O10.ex
     refine zad fun R hR=>?_
     walk_at "rd"
     refine ⟨_,_,_,_,true,rfl,rfl,.lst h2,zma,true,rfl,?_⟩
     walk_at "rd"
     refine zhj (d:=.list ((z :: zs).map PyData.str)) (.lst (.of h2) (zbv _)) (.lst (.of h9) (zbv _)) (zdb _ oky) ⟨_,rfl,?_⟩
     walk_at "rd"
     refine zbp hp10 (ft.mis _ (by decide +kernel) (by decide +kernel) (by decide +kernel) (by decide +kernel) (by decide +kernel) (by decide +kernel)) ⟨D,w0.nm,rfl,O10,W,fun q=>absurd q (by rw [hn0]; simp),fun _ l3 H11 s11 fl3 h3=>?_⟩
     refine ⟨wd,ws,w0.nm,rfl,GF.same (s10.trans s11),wl,fun l4 H12 s12 fl4 h4=>?_⟩
     rw [<- M.kids W] at h4
     refine zhj (d:=.list ((kids D.ns w0.nm).map PyData.str)) (.lst (.of (s12 _ _ h3)) (zbv _)) (.lst (.of h4) (zbv _)) (zdb _ (kok _)) ⟨_,rfl,?_⟩
     walk_at "rd"
     refine hR _ _ ?_
     clear hR
     have h2:=s12 _ _ (s11 _ _ h2)
     have h9:=s12 _ _ (s11 _ _ h9)
     have s12:=s10.trans (s11.trans s12)
     clear s10 s11 O10 hp10 h3 h4
     refine zad fun R hR=>?_
     walk_at "rd"
     refine ⟨zeq h2,zhk h2 ?_ (hR _ _ ?_)⟩
     ·rw [List.length_map,<- ey2,List.length_tail,List.length_reverse]; omega
     clear hR
     have s13:=s12.app (o:=.lst ((z :: zs).map V.str++[.str (Str.ofString "a")])) fF2
     have h9:upd H12 l2 (.lst ((z :: zs).map V.str++[.str (Str.ofString "a")])) l1=some (.lst ((z :: zs).map V.str)):=by rw [zah n21.symm]; exact h9
     refine (show tIfS _ _ _ _ [some (.ref D.p),some (.ref wd),some (.str w0.nm),some (.ref w0.q),some (.ref l1),some (.ref l2)] (upd H12 l2 (.lst ((z :: zs).map V.str++[.str (Str.ofString "a")]))) from ?_)
     generalize upd H12 l2 (.lst ((z :: zs).map V.str++[.str (Str.ofString "a")]))=H13 at s13 h9 ⊢
     have O13:=OF.same s13
     obtain ⟨dx,fs,hp13,ft⟩:=O13.ex
     walk_at "rd"
     refine zbp hp13 (ft.mis _ (by decide +kernel) (by decide +kernel) (by decide +kernel) (by decide +kernel) (by decide +kernel) (by decide +kernel)) ⟨D,w0.nm,rfl,O13,W,fun q=>?_,fun _ ys' U' l5 H14 s14 fl5 h5=>?_⟩
     ·rcases q with q | q
      ·exact absurd q nr
      ·rw [hn0] at q; cases q
     rw [<- U.det U',ey2] at h5
     refine zhj (d:=.list ((z :: zs).map PyData.str)) (.lst (.of h5) (zbv _)) (.lst (.of (s14 _ _ h9)) (zbv _)) (zdb _ oky) ⟨_,rfl,?_⟩
     walk_at "rd"
     exact hN _ _ ⟨⟨_,_,_,_,rfl⟩,s13.trans s14⟩
   ·refine ⟨true,fun Q hQ=>?_,fun _=>?_,fun z=>(by cases z)⟩
    ·walk_at "rd"
     refine zgr (.of h9) e0 ⟨_,zpr G9 hw1,?_⟩
     refine zhi (.of (G9.ht w1 (zhw hw1).1)) (v:=.str w1.ab) rfl ?_
     rw [show decide (V.str w1.ab=V.str (Str.ofString "road"))=false from decide_eq_false (fun z=>c (V.str.inj z))]
     exact ⟨rfl,hQ⟩
    ·refine zje fun N hN=>?_
     walk_at "rd"
     refine ⟨zeq h9,?_⟩
     refine zgr (.of h9) e0 ⟨_,zpr G9 hw1,?_⟩
     refine zhi (.of (G9.ht w1 (zhw hw1).1)) (v:=.str w1.ab) rfl ?_
     have zl:zs.length<=6:=by rw [ey,List.length_append,List.length_reverse] at yl; omega
     refine ⟨l1,_,0,_,rfl,rfl,h9,Int.le_refl _,by rw [List.length_map,List.length_cons]; omega,zeu (by rw [List.length_map,List.length_cons]; omega),hN _ _ ?_⟩
     exact ⟨us'.length,by rw [eu]; simp,w1.ab,z :: zs,us',rfl,s9.app fl1,by rw [zab]; rfl,U1,by rw [ey,eu]; simp,c,rfl⟩
  ·rintro σ H6 ⟨⟨v2,v3,v4,v5,rfl⟩,sm⟩
   refine hR _ _ ?_
   clear hR
   have O6:=(OF.same sm).other (o':=.dK (weK ws)) nw (sm _ _ wF) (by intro _ z; cases z)
   have G6:WdOk (upd H6 wd (.dK (weK ws))) wd ws:=⟨zab,fun w hw=>by rw [zah (nq w hw)]; exact (GF.same sm).ht w hw⟩
   generalize upd H6 wd (.dK (weK ws))=H7 at O6 G6 ⊢
   obtain ⟨n,hn,_⟩:=W.rdN
   have hrd:fndN D.ns (Str.ofString "road")≠none:=by show fndN D.ns road≠none; rw [hn]; simp
   obtain ⟨dx,fs,hp,ft⟩:=O6.ex
   refine zad fun R hR=>?_
   walk_at "rd"
   refine zbp hp (ft.mis _ (by decide +kernel) (by decide +kernel) (by decide +kernel) (by decide +kernel) (by decide +kernel) (by decide +kernel)) ⟨D,_,rfl,O6,W,fun q=>absurd q hrd,fun _ l1 H8 s8 f1 h1=>hR _ _ ?_⟩
   clear hR
   refine zad fun R hR=>?_
   walk_at "rd"
   refine ⟨_,_,_,_,true,rfl,rfl,.lst h1,zma,true,rfl,?_⟩
   walk_at "rd"
   refine ⟨wd,ws,_,rfl,(G6.same s8).r,wl,fun l2 H9 s9 f2 h2=>?_⟩
   rw [<- M.kids W] at h2
   refine zhj (d:=.list ((kids D.ns _).map PyData.str)) (.lst (.of (s9 _ _ h1)) (zbv _)) (.lst (.of h2) (zbv _)) (zdb _ (kok _)) ⟨_,rfl,?_⟩
   walk_at "rd"
   refine hR _ _ ?_
   clear hR
   refine zad fun R hR=>?_
   walk_at "rd"
   have h1:=s9 _ _ h1
   refine ⟨zeq h1,zhk h1 ?_ (hR _ _ ?_)⟩
   ·rw [List.length_map,M.kids W,List.length_map]
    have:=List.length_filter_le (fun w:WE=>decide (w.ab=Str.ofString "road")) ws
    omega
   clear hR
   have s10:=(s8.trans s9).app (o:=.lst ((kids D.ns (Str.ofString "road")).map V.str++[.str (Str.ofString "a")])) f1
   refine (show tRet _ _ [some (.ref D.p),some (.ref wd),v2,v3,v4,some (.ref l1)] (upd H9 l1 (.lst ((kids D.ns (Str.ofString "road")).map V.str++[.str (Str.ofString "a")]))) from ?_)
   generalize upd H9 l1 (.lst ((kids D.ns (Str.ofString "road")).map V.str++[.str (Str.ofString "a")]))=H10 at s10 ⊢
   have OA:=O6.same s10
   obtain ⟨dx,fs,hp,ft⟩:=OA.ex
   walk_at "rd"
   refine zbp hp (ft.mis _ (by decide +kernel) (by decide +kernel) (by decide +kernel) (by decide +kernel) (by decide +kernel) (by decide +kernel)) ⟨D,_,rfl,OA,W,fun q=>absurd q hrd,fun _ l3 H11 s11 f3 h3=>?_⟩
   refine ⟨wd,ws,_,rfl,(G6.same (s10.trans s11)).r,wl,fun l4 H12 s12 f4 h4=>?_⟩
   rw [<- M.kids W] at h4
   exact zos (d:=.list ((kids D.ns _).map PyData.str)) (.lst (.of (s12 _ _ h3)) (zbv _)) (.lst (.of h4) (zbv _)) (zdb _ (kok _)) (k _)
structure LI (C:Cl) (sl wd t:Addr) (ns:List Int) (most:Int) (i:Nat) (H:Hp) (D:TD) (ws:List WE):Prop where
 O:TrOk C H D
 W:D.Wf
 F:D.full
 G:WdOk H wd ws
 M:Mt D ws
 nw:wd ∉ D.foot
 hs:H sl=some (.lst (ns.map V.int))
 nsl:sl ∉ D.foot
 p:D.p=t
 mo:D.most=most
 ln:D.ns.length=ws.length+1
 le:ws.length<=i
theorem LI.same {C:Cl} {sl wd t:Addr} {ns:List Int} {most:Int} {i:Nat} {H H':Hp} {D:TD} {ws:List WE} (h:LI C sl wd t ns most i H D ws) (s:Same H H'):LI C sl wd t ns most i H' D ws :=
 ⟨h.O.same s,h.W,h.F,h.G.same s,h.M,h.nw,s _ _ h.hs,h.nsl,h.p,h.mo,h.ln,h.le⟩
theorem LI.next {C:Cl} {sl wd t:Addr} {ns:List Int} {most:Int} {i:Nat} {H:Hp} {D:TD} {ws:List WE} (h:LI C sl wd t ns most i H D ws):LI C sl wd t ns most (i+1) H D ws:=⟨h.O,h.W,h.F,h.G,h.M,h.nw,h.hs,h.nsl,h.p,h.mo,h.ln,Nat.le_succ_of_le h.le⟩
theorem zps (ns:List Str) (lo hi:Option Int):∃ ms:List Str,cutV (ns.map V.str) lo hi=ms.map V.str/\ms.length<=ns.length/\∀ x∈ms,x∈ns:=by
 refine ⟨(ns.drop (HT.sIx (ns.map V.str).length 0 lo)).take (HT.sIx (ns.map V.str).length (ns.map V.str).length hi-HT.sIx (ns.map V.str).length 0 lo),?_,?_,fun x h=>List.mem_of_mem_drop (List.mem_of_mem_take h)⟩
 ·unfold cutV
  rw [List.map_take,List.map_drop]
 ·rw [List.length_take,List.length_drop]
  omega
theorem ztc (xs:List V) (lo hi:Nat):(cutV xs (some (lo:Int)) (some (hi:Int))).length<=hi-lo:=by
 unfold cutV
 rw [HT.sIx_nat,HT.sIx_nat,List.length_take]
 omega
def kds:List Str:=[Str.ofString "leaf", Str.ofString "starts", Str.ofString "rounds", Str.ofString "starts", Str.ofString "rounds", Str.ofString "leaf", Str.ofString "starts", Str.ofString "rounds", Str.ofString "Leaf"]
theorem pickV {K:PySem.W.Frag} {H:Hp} {t:Addr} {i:Int} {Q:VK} (xs:List V) (h0:0<=i) (h1:i<xs.length) (k:∀ v∈xs,Q v (upd H t (.lst xs))):rIxL K (.ref t) (.int i) (upd H t (.lst xs)) Q:=by
 have e:=zes (xs:=xs) (j:=i.toNat) (v:=xs[i.toNat]'(by omega)) (List.getElem?_eq_getElem (by omega))
 rw [Int.toNat_of_nonneg h0] at e
 exact zgr (.of zab) e (k _ (List.getElem_mem _))
theorem zun {f:Addr} {fd:FuncData} (F:Fun K "law" "law" s_law f fd) (T:Txt K mg c_WheelError c_NoName c_Taken c_NoClass c_NoPlace c_NoShare c_NoLength c_Members c_Chooser c_Starts c_Rounds c_Node c_Tree):FnOk P w K mg base CX0 9 f fd ["_law_script"] (spLaw K):=by
 have D__law_cell_at:=zih (P:=P) (w:=w) (base:=base) T
 have K_Tree:=zui (P:=P) (w:=w) (base:=base) T
 have D__law_stream:=zjm (P:=P) (w:=w) (base:=base) T
 have D__law_name:=zls (P:=P) (w:=w) (base:=base) T
 have D__law_word:=zhv (P:=P) (w:=w) (base:=base) T
 have D__law_due:=znh (P:=P) (w:=w) (base:=base) T
 have D__law_put:=zni (P:=P) (w:=w) (base:=base) T
 have D__law_caught:=zjn (P:=P) (w:=w) (base:=base) T
 have D__law_stranger:=zhy (P:=P) (w:=w) (base:=base) T
 have M_Tree_below:=zex (P:=P) (w:=w) (base:=base) T
 have D__law_below:=zgv (P:=P) (w:=w) (base:=base) T
 have D__law_all_stand:=zgx (P:=P) (w:=w) (base:=base) T
 refine F.ok sc_law (fun vs H Q E h=>?_) (fun cdv A outer s H vs Q E hr h=>?_)
 ·obtain ⟨a,ns,rfl,_⟩:=h
  rfl
 ·obtain ⟨sc,ns,rfl,hS,hlen,k⟩:=h
  refine ex_x ⟨_,(zbg (zcv (zau (i:=1) sc_law.nd rfl (by first|left;rfl|right;rfl) (pe_op zcu (zaw D__law_cell_at (hr.mono (by decide)) rfl passN (zaa (pv 0) (zaa zai zag))) zai))) (zbg (zcv (zau (i:=2) sc_law.nd rfl (by first|left;rfl|right;rfl) (pe_op zeg zai (pe_op zcu (pe_op zqd (pv 1) zai) (pe_op zgp zai zai))))) (zbg (zcv (ps_if (zap op_eq (pe_op zcu (pv 1) zai) zai (zar _)) (zaf (zau (i:=3) sc_law.nd rfl (by first|left;rfl|right;rfl) (zfa (dvs:=[V.str (Str.ofString "starts")]) K_Tree (by simp) (hr.mono (by decide)) passN rfl T.mg_Tree (zaa (pv 2) zag)))) (zaf (zau (i:=3) sc_law.nd rfl (by first|left;rfl|right;rfl) (zfa (dvs:=[]) K_Tree (by simp) (hr.mono (by decide)) passN rfl T.mg_Tree (zaa (pv 2) (zaa (pe_ix (zav K rfl) (zdg (zaa zaq (zaa zaq zag))) (pe_op zrc (pe_op zcu (pv 1) zai) zai) (fun _ _=>rfl)) zag))))))) (zbg (zcv (zau (i:=4) sc_law.nd rfl (by first|left;rfl|right;rfl) zfu)) (zbg (zst PassesOwn.never rfl (zqf K rfl (zfq (zfr K rfl) (pv 0) (zgd zai) (zgd zai))) (zdu (i:=1) sc_law.nd rfl (by first|left;rfl|right;rfl)) (zbg (zcv (zau (i:=5) sc_law.nd rfl (by first|left;rfl|right;rfl) (zaw D__law_stream (hr.mono (by decide)) rfl passN (zaa (pv 1) (zaa zai zag))))) (zbg (zcv (zau (i:=6) sc_law.nd rfl (by first|left;rfl|right;rfl) (zjw (ziq rfl) rfl T.no_list boot_list (zaa (pv 4) zag)))) (zbg (zcv (zau (i:=7) sc_law.nd rfl (by first|left;rfl|right;rfl) (zaw D__law_name (hr.mono (by decide)) rfl passN (zaa (pv 5) (zaa (pv 6) zag))))) (zbg (zcv (zau (i:=8) sc_law.nd rfl (by first|left;rfl|right;rfl) (pe_ix (zav K rfl) (pe_op zod (pe_op zod (zdg (zaa zaq (zaa (zaw D__law_word (hr.mono (by decide)) rfl passN (zaa (pv 5) (zaa zai zag))) zag))) (pv 6)) (pe_op zto (zfq (zfr K rfl) (pv 6) (zgd (pe_un zfp zai)) zix) zai)) (pe_op zcu (pe_ix (zav K rfl) (pv 5) zai (fun _ _=>rfl)) (pe_op zeg (pe_op zeg zai (zbi (zdv K rfl) rfl T.no_len boot_len (zaa (pv 6) zag))) (pe_op zle zai (zbi (zdv K rfl) rfl T.no_len boot_len (zaa (zfq (zfr K rfl) (pv 6) (zgd (pe_un zfp zai)) zix) zag))))) (fun _ _=>rfl)))) (zbg (zpg (i:=9) sc_law.nd rfl (by first|left;rfl|right;rfl) (zue (zav K rfl) (zpf (zcm (zcm (zcm (zcm (zcm (zcm (zcm (zcm (zcm zrq)))))))))) (pe_op zcu (pe_ix (zav K rfl) (pv 5) zai (fun _ _=>rfl)) zai) (fun _ _=>rfl))) (zbg (zcv (zau (i:=10) sc_law.nd rfl (by first|left;rfl|right;rfl) (pe_ix (zav K rfl) (zdg (zaa (pe_op zeg zai (pe_op zcu (pe_ix (zav K rfl) (pv 5) zai (fun _ _=>rfl)) (pe_op zgp zai zai))) (zaa (pe_op zeg zai (pe_op zcu (pe_ix (zav K rfl) (pv 5) zai (fun _ _=>rfl)) zai)) (zaa (pe_op zgp zai zai) (zaa zai (zaa (pe_op zeg (pe_op zcu (pe_ix (zav K rfl) (pv 5) zai (fun _ _=>rfl)) (pe_op zgp zai zai)) zai) (zaa (pe_op zeg (pe_op zgp zai zai) zai) (zaa zai (zaa (pe_un zfp zai) zag))))))))) (pe_op zcu (pe_ix (zav K rfl) (pv 5) zai (fun _ _=>rfl)) zai) (fun _ _=>rfl)))) (zbg (zcv (zau (i:=11) sc_law.nd rfl (by first|left;rfl|right;rfl) (pe_ix (zav K rfl) (zdg (zaa zdy (zaa zai (zaa (pe_op zcu (pe_ix (zav K rfl) (pv 5) zai (fun _ _=>rfl)) (pe_op zgp zai zai)) (zaa (pe_op zrc (pe_un zfp zai) (pe_op zcu (pe_ix (zav K rfl) (pv 5) zai (fun _ _=>rfl)) zai)) (zaa (pe_op zgp zai zai) (zaa (pe_un zfp zai) zag))))))) (pe_op zcu (pe_ix (zav K rfl) (pv 5) zai (fun _ _=>rfl)) zai) (fun _ _=>rfl)))) (zbg (zcv (zau (i:=12) sc_law.nd rfl (by first|left;rfl|right;rfl) (zaw D__law_due (hr.mono (by decide)) rfl passN (zaa (pv 4) (zaa (pv 7) (zaa (pv 8) (zaa (pv 9) (zaa (pv 10) (zaa (zlv (zap op_eq (pv 11) (pe_un zfp zai) (zar _)) zdy (pv 11)) zag))))))))) (zbg (zcv (ps_if (zap op_ne (zaw D__law_put (hr.mono (by decide)) rfl passN (zaa (pv 3) (zaa (pv 7) (zaa (pv 8) (zaa (pv 9) (zaa (pv 10) (zaa (pv 11) zag))))))) (pv 12) (zar _)) (zaf (zat pe_bl)) zas)) (zbg (zcv (ps_if (zap op_eq (pv 12) zaq (zar _)) (zaf (zgh (hu_of hr) (pv 4) (pv 7) (zoa (zaa (pv 8) (zaa (pv 9) zag))) rfl)) (zaf (ps_if (PW.pt (zdz (zap op_ne (pv 11) (pe_un zfp zai) (zar _)) (zef (zhd (zjo (zaw D__law_caught (hr.mono (by decide)) rfl passN (zaa (pv 3) (zaa (pv 7) (zaa (pv 8) (zaa (pv 9) (zaa (pv 10) (zaa (pv 11) zag)))))))))))) (zaf (zat pe_bl)) zas)))) (zbg (zcv (ps_if (PW.pt (zdz (zap op_eq (pv 12) zaq (zar _)) (zdz (zgn (zft (hu_of hr) (pv 8) (pv 4))) (zef (zhd (zjo (zaw D__law_stranger (hr.mono (by decide)) rfl passN (zaa (pv 3) (zaa (pv 8) zag))))))))) (zaf (zat pe_bl)) zas)) (zjf (zcv (ps_if (PW.pt (zdz (zap op_ne (pv 12) zaq (zar _)) (zdz (PW.pt (pw_or (zap op_eq (pv 8) zaq (zar _)) (zgo (zgn (zmk (hu_of hr) (pv 8) (pv 4)))))) (zef (zap (zet K rfl hr.units) (zbf (dvs:=[]) M_Tree_below (by simp) T.cl_Tree (hr.mono (by decide)) passN (pv 3) (zaa (pv 8) zag)) (zaw D__law_below (hr.mono (by decide)) rfl passN (zaa (pv 4) (zaa (pv 8) zag))) (zar _)))))) (zaf (zat pe_bl)) zas))))))))))))))) (zjf (zcv (zat (znp (zhe op_eq (zcc (pv 3) rfl) (pv 2) (zar _)) (zno (zaw D__law_all_stand (hr.mono (by decide)) rfl passN (zaa (pv 3) (zaa (pv 4) zag))))))))))))),?_⟩
  show tSeq _ _ _ [some (.ref sc),none,none,none,none,none,none,none,none,none,none,none,none] H
  refine zad fun R hR=>?_
  walk_at "rd"
  refine zom hS (by omega) ⟨_,rfl,hR _ _ ?_⟩
  clear hR
  have c0:=Int.emod_nonneg (cellI ns 0) (show (2147483647:Int)≠0 by decide)
  have c1:=Int.emod_lt_of_pos (cellI ns 0) (show (0:Int)<2147483647 by decide)
  generalize cellI ns 0 % 2147483647=c at c0 c1
  refine zad fun R hR=>?_
  walk_at "rd"
  refine hR _ _ ?_
  clear hR
  have mb:1<=1+c / 3 % 1000000/\1+c / 3 % 1000000<=1000000:=by
   have:=Int.emod_nonneg (c / 3) (show (1000000:Int)≠0 by decide)
   have:=Int.emod_lt_of_pos (c / 3) (show (0:Int)<1000000 by decide)
   omega
  generalize 1+c / 3 % 1000000=most at mb
  refine zad fun R hR=>?_
  have post:∀ (HA:Hp) (x dx pn pg:Addr) (n:ND) (a:At5) (b:Bool) (H':Hp),Same H HA->HA x=none->HA dx=none->But x (upd (upd HA dx (.own x)) x (.ins c_Tree dx [])) H'->n = ⟨road,n.p,n.ql,none,some (a,CSt.new b),.non,none,[],[]⟩->(∀ b∈TD.foot ⟨x,pn,pg,most,0,0,0,[n],[],[]⟩,b=x\/upd (upd HA dx (.own x)) x (.ins c_Tree dx []) b=none)->TrOk (⟨c_Node,c_Starts,c_Rounds,c_Members,c_Node,c_Tree⟩:Cl) H' ⟨x,pn,pg,most,0,0,0,[n],[],[]⟩->R [some (.ref sc),some (.int c),some (.int most),some (.ref x),none,none,none,none,none,none,none,none,none] H':=fun HA x dx pn pg n a b H' sA hx hdx bt en fr O=>hR _ _ (by
   clear hR
   have sH:Same H H':=fun b o e=>by
    have e:=sA _ _ e
    exact bt b o (zan e hx) (zcy hx hdx _ _ e)
   have hS:=sH.seq hS
   refine zad fun R hR=>?_
   walk_at "rd"
   intro wd hwd
   refine hR _ _ ?_
   clear hR
   have s1:=zak (o:=.dK []) hwd
   have hS:=s1.seq hS
   have wF:=O.free hwd
   have O:=O.same s1
   have G:WdOk (upd H' wd (.dK [])) wd []:=⟨zab,fun w hw=>absurd hw List.not_mem_nil⟩
   have W0:TD.Wf ⟨x,pn,pg,most,0,0,0,[n],[],[]⟩:=TD.Wf.new (n:=n) (a:=a) (b:=b) rfl (by rw [en]) (by rw [en]) (by rw [en]) mb
   have F0:TD.full ⟨x,pn,pg,most,0,0,0,[n],[],[]⟩:=⟨by show 1<=60; decide,fun y hy d hd=>by
    rw [List.mem_singleton.mp hy,en] at hd
    cases hd
    show (CSt.new b).sz<=_
    have:(CSt.new b).sz = 0:=by cases b <;> rfl
    rw [this]; exact Nat.zero_le _⟩
   refine (show tSeq _ _ _ [some (.ref sc),some (.int c),some (.int most),some (.ref x),some (.ref wd),none,none,none,none,none,none,none,none] (upd H' wd (.dK [])) from ?_)
   generalize upd H' wd (.dK [])=H1 at s1 hS O G ⊢
   clear bt fr sA hx hdx s1 hwd sH
   refine zad fun R hR=>?_
   refine zmi fun Z hZ=>?_
   walk_at "rd"
   obtain ⟨ms,em,hm⟩:=zoq ns (some 1) (some 19)
   have ml:ms.length<=18:=by
    have:=ztc (ns.map V.int) 1 19
    rw [show cutV (ns.map V.int) (some ((1:Nat):Int)) (some ((19:Nat):Int))=cutV (ns.map V.int) (some 1) (some 19) from rfl,em,List.length_map] at this
    exact this
   refine zke hS fun sl hsl=>?_
   walk_at "rd"
   refine ⟨⟨_,.of zab⟩,hZ _ _ ?_⟩
   clear hZ
   rw [em]
   have s2:=zak (o:=.lst (ms.map V.int)) hsl
   have h2:upd H1 sl (.lst (ms.map V.int)) sl=some (.lst (ms.map V.int)):=zab
   have J:LI (⟨c_Node,c_Starts,c_Rounds,c_Members,c_Node,c_Tree⟩:Cl) sl wd x ms most 0 (upd H1 sl (.lst (ms.map V.int))) ⟨x,pn,pg,most,0,0,0,[n],[],[]⟩ []:=⟨O.same s2,W0,F0,G.same s2,⟨n,[],rfl,.nil⟩,wF,h2,O.free hsl,rfl,rfl,rfl,Nat.le_refl _⟩
   generalize upd H1 sl (.lst (ms.map V.int))=H2 at J ⊢
   clear O W0 F0 G s2 h2 hsl wF hS
   refine zpw (K:=K) (a:=sl) (xs:=ms.map V.int) (fun i σ H'=>∃ v1 v5 v6 v7 v8 v9 v10 v11 v12 D ws,σ = [some (.ref sc),v1,some (.int most),some (.ref x),some (.ref wd),v5,v6,v7,v8,v9,v10,v11,v12]/\LI (⟨c_Node,c_Starts,c_Rounds,c_Members,c_Node,c_Tree⟩:Cl) sl wd x ms most i H' D ws) ⟨_,_,_,_,_,_,_,_,_,_,_,rfl,J⟩ (fun i σ H' _ ⟨_,_,_,_,_,_,_,_,_,_,_,_,J⟩=>.of J.hs) ?_ ?_
   ·rintro i v σ H3 hv ⟨v1,v5,v6,v7,v8,v9,v10,v11,v12,D,ws,rfl,J⟩
    obtain ⟨y,rfl⟩:∃ y,v=V.int y:=by
     rw [List.getElem?_map] at hv
     cases e:ms[i]? with
     | none=>rw [e] at hv; cases hv
     | some z=>rw [e] at hv; cases hv; exact ⟨z,rfl⟩
    have hi:i<18:=by
     have:=(List.getElem?_eq_some_iff.mp hv).1
     rw [List.length_map] at this
     omega
    show tSeq _ _ _ [some (.ref sc),some (.int y),some (.int most),some (.ref x),some (.ref wd),v5,v6,v7,v8,v9,v10,v11,v12] H3
    refine zje fun N hN=>?_
    have J0:=J.le
    have J:=J.next
    refine zad fun R hR=>?_
    walk_at "rd"
    refine ⟨y,16,rfl,by decide,fun px xs H4 s4 fpx hpx lx bx=>hR _ _ ?_⟩
    clear hR
    have J:=J.same s4
    clear s4 fpx
    refine zad fun R hR=>?_
    walk_at "rd"
    refine ⟨wd,_,rfl,J.G.hd,fun kl fkl=>hR _ _ ?_⟩
    clear hR
    have ek:((weK ws).map fun kv=>kV kv.1)=(ws.map (·.nm)).map V.str:=by
     unfold weK
     rw [List.map_map,List.map_map]; rfl
    rw [ek]
    have s5:=zak (o:=.lst ((ws.map (·.nm)).map V.str)) fkl
    have hkl:upd H4 kl (.lst ((ws.map (·.nm)).map V.str)) kl=some (.lst ((ws.map (·.nm)).map V.str)):=zab
    have J:=J.same s5
    have hpx:=s5 _ _ hpx
    generalize upd H4 kl (.lst ((ws.map (·.nm)).map V.str))=H5 at J hpx hkl ⊢
    clear s5 fkl
    have kok:∀ z∈ws.map (·.nm),StOk 8 z:=fun z hz=>by
     obtain ⟨r,rest,e,p⟩:=J.M
     have:∀ {l:List ND} {ws:List WE},Paired NW l ws->z∈ws.map (·.nm)->∃ n∈l,n.nm=z:=fun {l ws} p=>by
      induction p with
      | nil=>intro h; cases h
      | cons a b ih =>
       intro h
       rcases List.mem_cons.mp h with q | q
       ·exact ⟨_,List.mem_cons_self ..,a.1.trans q.symm⟩
       ·obtain ⟨n,h1,h2⟩:=ih q
        exact ⟨n,List.mem_cons_of_mem _ h1,h2⟩
     obtain ⟨n,hn,e2⟩:=this p hz
     exact e2 ▸ J.W.sok n (by rw [e]; exact List.mem_cons_of_mem _ hn)
    have klen:(ws.map (·.nm)).length<=18:=by rw [List.length_map]; have:=J.le; omega
    have bx0:∀ m∈xs,0<=m:=fun m hm=>(bx m hm).1
    refine zad fun R hR=>?_
    walk_at "rd"
    refine ⟨px,kl,xs,ws.map (·.nm),rfl,hpx,lx,bx0,hkl,kok,by omega,fun nmz H6 s6 oz=>hR _ _ ?_⟩
    clear hR
    have J:=J.same s6
    have hpx:=s6 _ _ hpx
    have hkl:=s6 _ _ hkl
    clear s6
    generalize ws.map (·.nm)=ks at hkl kok klen
    refine zad fun R hR=>?_
    walk_at "rd"
    refine ⟨px,xs,2,rfl,hpx,by omega,by decide,fun wz H7 s7 ow p1 f1=>?_⟩
    obtain ⟨m2,em2,lm2,mm2⟩:=zps ks (some (-2)) none
    have s8:=s7.trans (zak (o:=.lst [.str (Str.ofString "road"),.str wz]) f1)
    refine ⟨p1,kl,_,_,rfl,rfl,zab,s8 _ _ hkl,zfj (by rw [List.length_map]; simp only [List.length_cons,List.length_nil]; omega),fun p2 f2=>?_⟩
    have s9:=s8.trans (zak (o:=.lst ([.str (Str.ofString "road"),.str wz]++ks.map V.str)) f2)
    have h9:upd (upd H7 p1 (.lst [.str (Str.ofString "road"),.str wz])) p2 (.lst ([.str (Str.ofString "road"),.str wz]++ks.map V.str)) p2=some (.lst (([Str.ofString "road", wz]++ks).map V.str)):=by rw [zab,List.map_append]; rfl
    refine (show rSlL K (V.ref kl) (some (-2)) none (upd (upd H7 p1 (.lst [.str (Str.ofString "road"),.str wz])) p2 (.lst ([.str (Str.ofString "road"),.str wz]++ks.map V.str))) _ from ?_)
    generalize upd (upd H7 p1 (.lst [.str (Str.ofString "road"),.str wz])) p2 (.lst ([.str (Str.ofString "road"),.str wz]++ks.map V.str))=H9 at s9 h9 ⊢
    clear s7 s8 f1 f2
    refine zke (.of (s9 _ _ hkl)) fun p3 f3=>?_
    rw [em2]
    have s10:=s9.trans (zak (o:=.lst (m2.map V.str)) f3)
    refine ⟨p3,3,m2.map V.str,rfl,rfl,zab,by decide,by decide,zfj (by rw [List.length_map]; show m2.length*3<=_; omega),fun p4 f4=>?_⟩
    have e4:(List.replicate (3:Int).toNat (m2.map V.str)).flatten=((List.replicate 3 m2).flatten).map V.str:=by
     rw [List.map_flatten,List.map_replicate]; rfl
    have l4:(List.replicate 3 m2).flatten.length = 3*m2.length:=zoe m2 3
    rw [e4]
    have h10:=zak (o:=.lst (m2.map V.str)) f3 _ _ h9
    have s11:=s10.trans (zak (o:=.lst ((List.replicate 3 m2).flatten.map V.str)) f4)
    have h11:=zak (o:=.lst ((List.replicate 3 m2).flatten.map V.str)) f4 _ _ h10
    refine ⟨p2,p4,_,_,rfl,rfl,h11,zab,zfj (by rw [List.length_map,List.length_map,l4]; simp only [List.length_append,List.length_cons,List.length_nil]; omega),fun p5 f5=>?_⟩
    rw [<- List.map_append]
    have s12:=s11.trans (zak (o:=.lst ((([Str.ofString "road", wz]++ks)++(List.replicate 3 m2).flatten).map V.str)) f5)
    have h12:upd (upd (upd H9 p3 (.lst (m2.map V.str))) p4 (.lst ((List.replicate 3 m2).flatten.map V.str))) p5 (.lst ((([Str.ofString "road", wz]++ks)++(List.replicate 3 m2).flatten).map V.str)) p5=some (.lst ((([Str.ofString "road", wz]++ks)++(List.replicate 3 m2).flatten).map V.str)):=zab
    generalize upd (upd (upd H9 p3 (.lst (m2.map V.str))) p4 (.lst ((List.replicate 3 m2).flatten.map V.str))) p5 (.lst ((([Str.ofString "road", wz]++ks)++(List.replicate 3 m2).flatten).map V.str))=H12 at s12 h12 ⊢
    clear s11 h11 s10 h10 f3 f4 f5 s9 h9
    refine ixNum 10 (s12 _ _ hpx) (by omega) fun y10 m10=>zil (.of (s12 _ _ hkl)) ⟨_,rfl,?_⟩
    rw [List.length_map]
    refine zke (.of (s12 _ _ hkl)) fun p6 f6=>?_
    rw [em2]
    have s13:=s12.trans (zak (o:=.lst (m2.map V.str)) f6)
    have h13:=zak (o:=.lst (m2.map V.str)) f6 _ _ h12
    refine zil (.of zab) ⟨_,rfl,?_⟩
    rw [List.length_map]
    refine ⟨⟨Sw.Sz.lit (by decide),(show Sw.Sz 70 (m2.length:Int) from Sw.Sz.r18 (by omega) (by omega)).mono (by decide)⟩,y10,rfl,by omega,?_⟩
    have ll:(([Str.ofString "road", wz]++ks)++(List.replicate 3 m2).flatten).length = 2+ks.length+3*m2.length:=by
     rw [List.length_append,List.length_append,l4]; rfl
    refine ixW h13 (Int.emod_nonneg _ (by omega)) (by
     have:=Int.emod_lt_of_pos y10 (show (0:Int)<2+ks.length+3*m2.length by omega)
     rw [ll]
     omega) fun ab _=>hR _ _ ?_
    clear hR
    generalize upd H12 p6 (.lst (m2.map V.str))=H13 at s13 ⊢
    have J:=J.same s13
    have hpx:=s13 _ _ hpx
    clear h13 h12 s12 s13 f6 ll l4 e4 em2 lm2 mm2 hkl
    refine zad fun R hR=>?_
    walk_at "rd"
    intro q1 g1
    have s14:=zak (o:=.lst (kds.map V.str)) g1
    have h14:upd H13 q1 (.lst (kds.map V.str)) q1=some (.lst (kds.map V.str)):=zab
    refine (show rIxL K (V.ref px) (V.int 11) (upd H13 q1 (.lst (kds.map V.str))) _ from ?_)
    generalize upd H13 q1 (.lst (kds.map V.str))=H14 at s14 h14 ⊢
    have J:=J.same s14
    have hpx:=s14 _ _ hpx
    refine ixNum 11 hpx (by omega) fun y11 m11=>⟨_,rfl,?_⟩
    refine ixW h14 (Int.emod_nonneg _ (by decide)) (Int.emod_lt_of_pos _ (by decide)) fun kd _=>hR _ _ ?_
    clear hR s14 h14 g1
    refine zad fun R hR=>?_
    walk_at "rd"
    refine ixNum 12 hpx (by omega) fun y12 m12=>⟨_,rfl,?_⟩
    refine ixNum 12 hpx (by omega) fun y12' m12'=>⟨_,rfl,?_⟩
    refine ixNum 12 hpx (by omega) fun y12'' m12''=>⟨_,rfl,?_⟩
    intro q2 g2
    have s15:=zak (o:=.lst [.int (1+y12 % 1000000),.int (1+y12' % 9),.int 1000000,.int 1,.int (y12'' % 1000000+1),.int 1000001,.int 0,.int (-4)]) g2
    refine ixNum 13 (s15 _ _ hpx) (by omega) fun y13 m13=>⟨_,rfl,?_⟩
    refine pickI [_,_,_,_,_,_,_,_] (Int.emod_nonneg _ (by decide)) (Int.emod_lt_of_pos _ (by decide)) fun sh=>hR _ _ ?_
    clear hR
    have J:=J.same s15
    have hpx:=s15 _ _ hpx
    refine (show tSeq _ _ _ [some (.ref sc),some (.int y),some (.int most),some (.ref x),some (.ref wd),some (.ref px),some (.ref kl),some (.str nmz),some (.str ab),some (.str kd),some (.int sh),v11,v12] (upd H14 q2 (.lst [.int (1+y12 % 1000000),.int (1+y12' % 9),.int 1000000,.int 1,.int (y12'' % 1000000+1),.int 1000001,.int 0,.int (-4)])) from ?_)
    generalize upd H14 q2 (.lst [.int (1+y12 % 1000000),.int (1+y12' % 9),.int 1000000,.int 1,.int (y12'' % 1000000+1),.int 1000001,.int 0,.int (-4)])=H15 at J hpx ⊢
    clear s15 g2
    refine zad fun R hR=>?_
    walk_at "rd"
    refine ixNum 14 hpx (by omega) fun y14 m14=>⟨_,rfl,?_⟩
    refine ixNum 14 hpx (by omega) fun y14' m14'=>⟨_,rfl,?_⟩
    intro q3 g3
    have s16:=zak (o:=.lst [.non,.int 0,.int (y14 % 1000000),.int (-1-y14' % 6),.int 1000000000000,.int (-7)]) g3
    refine ixNum 15 (s16 _ _ hpx) (by omega) fun y15 m15=>⟨_,rfl,?_⟩
    refine pickV [_,_,_,_,_,_] (Int.emod_nonneg _ (by decide)) (Int.emod_lt_of_pos _ (by decide)) fun rm hrm=>hR _ _ ?_
    clear hR
    have hrm:rm = .non\/∃ r,rm = .int r:=by
     simp only [List.mem_cons,List.not_mem_nil,or_false] at hrm
     rcases hrm with z | z | z | z | z | z
     ·exact .inl z
     all_goals exact .inr ⟨_,z⟩
    have J:=J.same s16
    refine (show tSeq _ _ _ [some (.ref sc),some (.int y),some (.int most),some (.ref x),some (.ref wd),some (.ref px),some (.ref kl),some (.str nmz),some (.str ab),some (.str kd),some (.int sh),some rm,v12] (upd H15 q3 (.lst [.non,.int 0,.int (y14 % 1000000),.int (-1-y14' % 6),.int 1000000000000,.int (-7)])) from ?_)
    generalize upd H15 q3 (.lst [.non,.int 0,.int (y14 % 1000000),.int (-1-y14' % 6),.int 1000000000000,.int (-7)])=H16 at J ⊢
    clear s16 g3 hpx m14 m14' m15 m10 m11 m12 m12' m12'' m13 bx bx0 lx kok klen
    have oz:StOk 10000 nmz:=oz.mono (by decide)
    refine zad fun R hR=>?_
    walk_at "rd"
    generalize hrr:(if rm = .int (-7) then V.non else rm)=rr
    have hrr2:rr = .non\/∃ r,rr = .int r:=by
     rw [<- hrr]
     split
     ·exact .inl rfl
     ·exact hrm
    have aft:∀ H17,Same H16 H17->R [some (.ref sc),some (.int y),some (.int most),some (.ref x),some (.ref wd),some (.ref px),some (.ref kl),some (.str nmz),some (.str ab),some (.str kd),some (.int sh),some rm,some (.str (dueW (dueP D nmz ab kd sh rr)))] H17:=fun H17 s17=>hR _ _ (by
     clear hR
     have J:=J.same s17
     clear s17
     refine zad fun R1 hR1=>?_
     have mid:∀ Hz,((∃ r,dueP D nmz ab kd sh rr=some r/\LI (⟨c_Node,c_Starts,c_Rounds,c_Members,c_Node,c_Tree⟩:Cl) sl wd x ms most (i+1) Hz D ws)\/(dueP D nmz ab kd sh rr=none/\∃ D',PutOk (⟨c_Node,c_Starts,c_Rounds,c_Members,c_Node,c_Tree⟩:Cl) D nmz ab kd sh rr H17 Hz D'))->R1 [some (.ref sc),some (.int y),some (.int most),some (.ref x),some (.ref wd),some (.ref px),some (.ref kl),some (.str nmz),some (.str ab),some (.str kd),some (.int sh),some rm,some (.str (dueW (dueP D nmz ab kd sh rr)))] Hz:=fun Hz hz=>hR1 _ _ (by
      clear hR1
      refine zad fun R2 hR2=>?_
      have tail:∀ (Hy:Hp) (Dy:TD) (wy:List WE),LI (⟨c_Node,c_Starts,c_Rounds,c_Members,c_Node,c_Tree⟩:Cl) sl wd x ms most (i+1) Hy Dy wy->(dueW (dueP D nmz ab kd sh rr)=Str.ofString "class" -> fndN Dy.ns ab=none)->R2 [some (.ref sc),some (.int y),some (.int most),some (.ref x),some (.ref wd),some (.ref px),some (.ref kl),some (.str nmz),some (.str ab),some (.str kd),some (.int sh),some rm,some (.str (dueW (dueP D nmz ab kd sh rr)))] Hy:=fun Hy Dy wy Jy hcl=>hR2 _ _ (by
       clear hR2
       generalize dueW (dueP D nmz ab kd sh rr)=du at hcl
       obtain ⟨nr,hnr,_⟩:=Jy.W.rdN
       refine zad fun R3 hR3=>?_
       have last:∀ Hx,Same Hy Hx->R3 [some (.ref sc),some (.int y),some (.int most),some (.ref x),some (.ref wd),some (.ref px),some (.ref kl),some (.str nmz),some (.str ab),some (.str kd),some (.int sh),some rm,some (.str du)] Hx:=fun Hx sx=>hR3 _ _ (by
        clear hR3
        have Jx:=Jy.same sx
        have fin:∀ Hw,Same Hx Hw->N [some (.ref sc),some (.int y),some (.int most),some (.ref x),some (.ref wd),some (.ref px),some (.ref kl),some (.str nmz),some (.str ab),some (.str kd),some (.int sh),some rm,some (.str du)] Hw:=fun Hw sw=>hN _ _ ⟨_,_,_,_,_,_,_,_,_,Dy,wy,rfl,Jx.same sw⟩
        walk_at "rd"
        refine ite2 (fun _=>fin Hx (Same.refl _)) fun c5=>?_
        have bel:fndN Dy.ns ab≠none->rMeth c_Tree (Str.ofString "below") (V.ref x) Hx (spTB c_NoClass (⟨c_Node,c_Starts,c_Rounds,c_Members,c_Node,c_Tree⟩:Cl) [V.ref x,V.str ab] Hx (fun x_1 H1=>zmt [V.ref wd,V.str ab] H1 (fun y_1 H2=>rNeD K x_1 y_1 H2 fun x_2 H'=>∃ k,x_2=V.bl k/\if k=true then Q (.bl false) H' else N [some (.ref sc),some (.int y),some (.int most),some (.ref x),some (.ref wd),some (.ref px),some (.ref kl),some (.str nmz),some (.str ab),some (.str kd),some (.int sh),some rm,some (.str du)] H') (fun v d H'=>EX0 v d [some (.ref sc),some (.int y),some (.int most),some (.ref x),some (.ref wd),some (.ref px),some (.ref kl),some (.str nmz),some (.str ab),some (.str kd),some (.int sh),some rm,some (.str du)] H')) (fun v d H'=>EX0 v d [some (.ref sc),some (.int y),some (.int most),some (.ref x),some (.ref wd),some (.ref px),some (.ref kl),some (.str nmz),some (.str ab),some (.str kd),some (.int sh),some rm,some (.str du)] H')):=fun hab=>by
         obtain ⟨dx,fs,hp,ft⟩:=Jx.O.ex
         rw [Jx.p] at hp
         refine zbp hp (ft.mis _ (by decide +kernel) (by decide +kernel) (by decide +kernel) (by decide +kernel) (by decide +kernel) (by decide +kernel)) ⟨Dy,ab,by rw [Jx.p],Jx.O,Jx.W,fun z=>absurd z hab,fun _ l1 Hw sw f1 h1=>?_⟩
         refine ⟨wd,wy,ab,rfl,(Jx.G.same sw).r,by have:=Jx.le; omega,fun l2 Hv sv f2 h2=>?_⟩
         rw [<- Jx.M.kids Jx.W] at h2
         refine zhj (d:=.list ((kids Dy.ns ab).map PyData.str)) (.lst (.of (sv _ _ h1)) (zbv _)) (.lst (.of h2) (zbv _)) (zdb _ fun z hz=>?_) ⟨_,rfl,?_⟩
         ·unfold kids at hz
          obtain ⟨n,hn,rfl⟩:=List.mem_map.mp hz
          exact (Jx.W.sok n (List.mem_filter.mp hn).1).1
         ·rw [if_neg (by decide)]
          exact fin Hv (sw.trans sv)
        refine ite2 (fun c6=>bel ?_) fun c6=>⟨_,DGet.k (k:=Sum.inr ab) Jx.G.hd,?_⟩
        ·rw [c6]
         show fndN Dy.ns road≠none
         rw [hnr]; simp
        rw [zfo]
        rcases Jx.M.fnd Jx.W c6 with ⟨q1,q2⟩ | ⟨n1,w1,q1,q2,_⟩
        ·rw [q2]
         exact fin Hx (Same.refl _)
        ·rw [q2]
         exact bel (by rw [q1]; simp))
       clear hR3
       walk_at "rd"
       refine ite2 (fun c5=>?_) fun c5=>last Hy (Same.refl _)
       have hab:=hcl c5
       have nab:ab≠road:=fun z=>by rw [z,hnr] at hab; cases hab
       refine ⟨_,DGet.k (k:=Sum.inr ab) Jy.G.hd,?_⟩
       rw [zfo]
       rcases Jy.M.fnd Jy.W nab with ⟨q1,q2⟩ | ⟨n1,w1,q1,q2,_⟩
       ·rw [q2]
        refine ⟨Dy,ab,by rw [Jy.p],Jy.O,Jy.W,hab,fun Hx sx=>?_⟩
        walk_at "rd"
        exact last Hx sx
       ·rw [hab] at q1; cases q1)
      clear hR2
      rcases hz with ⟨r,er,Jz⟩ | ⟨en,D',PO⟩
      ·rw [er] at tail ⊢
       have t2:=tail Hz D ws Jz fun q=>by
        have:r = .cls:=by
         cases r with
         | cls=>rfl
         | name=>exact absurd q (by decide +kernel)
         | taken=>exact absurd q (by decide +kernel)
         | place=>exact absurd q (by decide +kernel)
         | share=>exact absurd q (by decide +kernel)
         | length=>exact absurd q (by decide +kernel)
        subst this
        exact zhx er
       have ndp:dueW (some r)≠Str.ofString "put" := by cases r <;> decide +kernel
       walk_at "rd"
       refine ite2 (fun c5=>absurd c5 ndp) fun _=>?_
       refine ⟨by rcases hrm with z | ⟨r,z⟩ <;> rw [z],ite2 (fun c6=>t2) fun c6=>?_⟩
       have er:dueP D nmz ab kd sh rm=some r:=by rw [if_neg c6] at hrr; rw [hrr]; exact er
       refine ⟨D,nmz,ab,kd,sh,rm,r,by rw [Jz.p],Jz.O,Jz.W,Jz.F,oz,hrm,er,fun Hx sx=>?_⟩
       walk_at "rd"
       exact tail Hx D ws (Jz.same sx) fun q=>by
        have:r = .cls:=by
         cases r with
         | cls=>rfl
         | name=>exact absurd q (by decide +kernel)
         | taken=>exact absurd q (by decide +kernel)
         | place=>exact absurd q (by decide +kernel)
         | share=>exact absurd q (by decide +kernel)
         | length=>exact absurd q (by decide +kernel)
        subst this
        exact zhx er
      ·rw [en] at tail ⊢
       obtain ⟨_,hnx,⟨_,_,okd,_⟩,_⟩:=zpq en
       have W':=PO.wf J.W en
       have F':=PO.full okd J.F (by have:=J.ln; have:=J.le; omega)
       have ft':=PO.foot
       have ln':=PO.len
       have wx:fndN D.ns nmz=none/\nmz≠road:=⟨hnx,fun z=>by
        obtain ⟨n,hn,_⟩:=J.W.rdN
        rw [z,hn] at hnx; cases hnx⟩
       have wn:wfn ws nmz=none:=by
        rcases J.M.fnd J.W wx.2 with ⟨_,q⟩ | ⟨_,_,q,_⟩
        ·exact q
        ·rw [hnx] at q; cases q
       obtain ⟨un,cc,nn,eD,hun,hcc,e1,e2,e3,e4,e5,e6,e7,e8,e9,O',dd⟩:=id PO
       have notup:∀ {b xs},H17 b=some (.tup xs)->b ∉ D.foot:=fun {b xs} e=>J.O.notup e
       have Gz:WdOk Hz wd ws:=⟨dd _ _ J.nw J.G.hd,fun w hw=>dd _ _ (notup (J.G.ht w hw)) (J.G.ht w hw)⟩
       have hsz:=dd _ _ J.nsl J.hs
       have nof:∀ {b o},b ∉ D.foot->H17 b=some o->b ∉ D'.foot:=fun {b o} n e z=>by
        rcases ft' b z with q | q
        ·exact n q
        ·rw [e] at q; cases q
       have pD:D'.p=x:=by rw [eD]; exact J.p
       walk_at "rd"
       intro q5 g5
       have s5:=zak (o:=.tup [.str ab,.str kd]) g5
       have nq5:q5 ∉ D'.foot:=O'.free g5
       have O5:=O'.same s5
       have G5:=Gz.same s5
       have hs5:=s5 _ _ hsz
       have ht5:upd Hz q5 (.tup [.str ab,.str kd]) q5=some (.tup [.str ab,.str kd]):=zab
       refine (show ∃ x_1,DPut (upd Hz q5 (.tup [.str ab,.str kd])) wd (V.str nmz) (V.ref q5) x_1/\R2 _ x_1 from ?_)
       generalize upd Hz q5 (.tup [.str ab,.str kd])=H5 at O5 G5 hs5 ht5 ⊢
       have wl:(weK ws).length<1000:=by
        rw [show (weK ws).length=ws.length from List.length_map _]
        have:=J.le
        omega
       refine ⟨_,DPut.k (k:=Sum.inr nmz) G5.hd (line_lt wl),?_⟩
       have ek:putK (weK ws) (Sum.inr nmz:Key) (.ref q5)=weK (ws++[⟨nmz,q5,ab,kd⟩]):=by
        unfold putK
        have e:((weK ws).any fun kv=>decide (kv.1=(Sum.inr nmz:Key)))=false:=by
         rw [zel,zfo,wn]; rfl
        rw [e,if_neg (by decide)]
        unfold weK
        rw [List.map_append]; rfl
       rw [ek]
       have nwq:∀ {b xs},H5 b=some (.tup xs)->b≠wd:=fun {b xs} e z=>by rw [z,G5.hd] at e; cases e
       refine tail _ D' (ws++[⟨nmz,q5,ab,kd⟩]) ⟨O5.other (nof J.nw J.G.hd) G5.hd (by intro _ z; cases z),W',F',⟨zab,fun w hw=>?_⟩,PO.mt okd J.M J.W q5,nof J.nw J.G.hd,?_,nof J.nsl J.hs,pD,by rw [eD]; exact J.mo,?_,?_⟩ fun q=>absurd q (by decide +kernel)
       ·rcases List.mem_append.mp hw with z | z
        ·rw [zah (nwq (G5.ht w z))]; exact G5.ht w z
        ·rw [List.mem_singleton.mp z,zah (nwq ht5)]; exact ht5
       ·have:sl≠wd:=fun z=>by rw [z,G5.hd] at hs5; cases hs5
        rw [zah this]; exact hs5
       ·rw [ln',J.ln,List.length_append]; rfl
       ·rw [List.length_append]
        have:=J0
        show ws.length+1<=i+1
        omega)
     clear hR1
     walk_at "rd"
     refine ⟨D,nmz,ab,kd,sh,rm,by rw [J.p],J.O,J.W,J.F,oz,hrm,fun r er H18 s18=>?_,fun er D' H18 PO=>?_⟩
     ·rw [hrr] at er
      have m2:=mid H18 (.inl ⟨r,er,J.same s18⟩)
      rw [er] at m2 ⊢
      walk_at "rd"
      exact m2
     ·rw [hrr] at er PO
      have m2:=mid H18 (.inr ⟨er,D',PO⟩)
      rw [er] at m2 ⊢
      walk_at "rd"
      exact m2)
    clear hR
    refine ⟨by rcases hrm with z | ⟨r,z⟩ <;> rw [z],ite2 (fun c3=>?_) fun c3=>?_⟩
    ·rw [if_pos c3] at hrr
     subst hrr
     exact ⟨wd,D,ws,nmz,ab,kd,sh,.non,rfl,J.G,J.W,J.M,oz,.inl rfl,fun H17 s17=>aft H17 s17⟩
    ·rw [if_neg c3] at hrr
     subst hrr
     exact ⟨wd,D,ws,nmz,ab,kd,sh,rm,rfl,J.G,J.W,J.M,oz,hrm,fun H17 s17=>aft H17 s17⟩
   ·rintro σ H3 ⟨v1,v5,v6,v7,v8,v9,v10,v11,v12,D,ws,rfl,J⟩
    refine hR _ _ ?_
    clear hR
    walk_at "rd"
    obtain ⟨dx,fs,hp,ft⟩:=J.O.ex
    rw [J.p] at hp
    refine zbh hp T.cl_Tree T.na_Tree_most ft.mo ?_
    rw [J.mo]
    walk_at "rd"
    refine ⟨D,wd,ws,by rw [J.p],J.O,J.W,J.G,J.M,J.nw,?_,fun H'=>k H'⟩
    have:=J.le
    rw [List.length_map] at this
    omega)
  clear hR
  walk_at "rd"
  refine ite2 (fun _=>?_) fun c2=>?_
  ·intro x dx hx hdx ne
   refine ⟨x,dx,most,_,rfl,zab,fun z=>absurd mb z,fun _ z=>absurd (.inl rfl) z,fun _ _ pn pg n a H' en bt fr O=>⟨rfl,post H x dx pn pg n a _ H' (Same.refl _) hx hdx bt en fr O⟩⟩
  ·intro p1 f1
   have r0:=Int.emod_nonneg c (show (3:Int)≠0 by decide)
   have r1:=Int.emod_lt_of_pos c (show (0:Int)<3 by decide)
   refine ixW (ks:=[Str.ofString "starts", Str.ofString "rounds"]) zab (by omega) (by show c % 3-1<2; omega) fun z hz x dx hx hdx ne=>?_
   have iz:Inner z:=by
    simp only [List.mem_cons,List.not_mem_nil,or_false] at hz
    exact hz
   exact ⟨x,dx,most,z,rfl,zab,fun z=>absurd mb z,fun _ z=>absurd iz z,fun _ _ pn pg n a H' en bt fr O=>⟨rfl,post _ x dx pn pg n a _ H' (zak f1) hx hdx bt en fr O⟩⟩
end
theorem all_mk {l:PySem.W.OpenLaw} {w:World} {K:PySem.W.Frag} {h:Heap} {mg:Str->Option Value} {fa f1 f2 f3 f4 f5 f6 f7 f8 f9 f10 f11 f12 f13 f14 f15 f16 f17 f18 f19 f20 f21:Addr} (X:K.In h) (G:h.Ns mainGlobals mg) (hfa:mg "law" = some (.ref fa))
    {od1 an1 od2 an2 od3 an3 od4 an4 od5 an5 od6 an6 od7 an7 od8 an8 od9 an9 od10 an10 od11 an11 od12 an12 od13 an13 od14 an14 od15 an15 od16 an16 od17 an17 od18 an18 od19 an19 od20 an20 od21 an21:Option Addr} {sl1 sl2 sl3 sl4 sl5 sl6 sl7 sl8 sl9 sl10 sl11 sl12 sl13 sl14 sl15 sl16 sl17 sl18 sl19 sl20 sl21:Array (Option Value)} {oc1 kV1 dc1 pm1 cd1 ct1 oc2 kV2 dc2 pm2 cd2 ct2 oc3 kV3 dc3 pm3 cd3 ct3 oc4 kV4 dc4 pm4 cd4 ct4 oc5 kV5 dc5 pm5 cd5 ct5 oc6 kV6 dc6 pm6 cd6 ct6 oc7 kV7 dc7 pm7 cd7 ct7 oc8 kV8 dc8 pm8 cd8 ct8 oc9 kV9 dc9 pm9 cd9 ct9 oc10 kV10 dc10 pm10 cd10 ct10 oc11 kV11 dc11 pm11 cd11 ct11 oc12 kV12 dc12 pm12 cd12 ct12 oc13 kV13 dc13 pm13 cd13 ct13 oc14 kV14 dc14 pm14 cd14 ct14 oc15 kV15 dc15 pm15 cd15 ct15 oc16 kV16 dc16 pm16 cd16 ct16 oc17 kV17 dc17 pm17 cd17 ct17 oc18 kV18 dc18 pm18 cd18 ct18 oc19 kV19 dc19 pm19 cd19 ct19 oc20 kV20 dc20 pm20 cd20 ct20 oc21 kV21 dc21 pm21 cd21 ct21:Value}
    {tk_GREATEST_SHARE tk_GREATEST_LENGTH tk_LETTERS tk_LONGEST_NAME tk_ROAD tk_LONGEST_WAY tk_LEAF:Tok}
    {tu_INNER_KINDS:Addr} {td_INNER_KINDS:Option Addr} {tn_INNER_KINDS:Nat} {tl_INNER_KINDS:Array (Option Value)} {tk0_INNER_KINDS tk1_INNER_KINDS:Tok}
    {c_WheelError c_NoName c_Taken c_NoClass c_NoPlace c_NoShare c_NoLength:Addr}
    {cd_WheelError cd_NoName cd_Taken cd_NoClass cd_NoPlace cd_NoShare cd_NoLength:ClassData}
    (b_WheelError:PySem.W.nsIn K mainGlobals "WheelError" = some (some (.ref c_WheelError)))
    (hd_WheelError:PySem.W.hasDictIn K c_WheelError=true)
    (ga_WheelError:PySem.W.findIn K (.ref c_WheelError) "__getattribute__" = some (some (.builtin "BaseException.__getattribute__")))
    (gn_WheelError:PySem.W.findIn K (.ref c_WheelError) "__getattr__" = some none)
    (sa_WheelError:PySem.W.findIn K (.ref c_WheelError) "__setattr__" = some (some (.builtin "object.__setattr__")))
    (cl_WheelError:PySem.W.findIn K (.ref c_WheelError) "__class__" = some (some (.builtin "object.__class__")))
    (be_WheelError:PySem.W.mroIn K c_WheelError (.type "BaseException")=some true)
    (ob_WheelError:PySem.W.mroIn K c_WheelError (.type "object")=some true)
    (kp_WheelError:PySem.W.keepIn K (.ref c_WheelError)=true)
    (ci_WheelError:PySem.W.clsIn K c_WheelError=some cd_WheelError)
    (ti_WheelError:PySem.W.typeIn K (.ref c_WheelError)=some (.type "type"))
    (ex_WheelError:PySem.W.excIn K c_WheelError bmV "ValueError.__new__" = true)
    (b_NoName:PySem.W.nsIn K mainGlobals "NoName" = some (some (.ref c_NoName)))
    (hd_NoName:PySem.W.hasDictIn K c_NoName=true)
    (ga_NoName:PySem.W.findIn K (.ref c_NoName) "__getattribute__" = some (some (.builtin "BaseException.__getattribute__")))
    (gn_NoName:PySem.W.findIn K (.ref c_NoName) "__getattr__" = some none)
    (sa_NoName:PySem.W.findIn K (.ref c_NoName) "__setattr__" = some (some (.builtin "object.__setattr__")))
    (cl_NoName:PySem.W.findIn K (.ref c_NoName) "__class__" = some (some (.builtin "object.__class__")))
    (be_NoName:PySem.W.mroIn K c_NoName (.type "BaseException")=some true)
    (ob_NoName:PySem.W.mroIn K c_NoName (.type "object")=some true)
    (kp_NoName:PySem.W.keepIn K (.ref c_NoName)=true)
    (ci_NoName:PySem.W.clsIn K c_NoName=some cd_NoName)
    (ti_NoName:PySem.W.typeIn K (.ref c_NoName)=some (.type "type"))
    (ex_NoName:PySem.W.excIn K c_NoName bmV "ValueError.__new__" = true)
    (b_Taken:PySem.W.nsIn K mainGlobals "Taken" = some (some (.ref c_Taken)))
    (hd_Taken:PySem.W.hasDictIn K c_Taken=true)
    (ga_Taken:PySem.W.findIn K (.ref c_Taken) "__getattribute__" = some (some (.builtin "BaseException.__getattribute__")))
    (gn_Taken:PySem.W.findIn K (.ref c_Taken) "__getattr__" = some none)
    (sa_Taken:PySem.W.findIn K (.ref c_Taken) "__setattr__" = some (some (.builtin "object.__setattr__")))
    (cl_Taken:PySem.W.findIn K (.ref c_Taken) "__class__" = some (some (.builtin "object.__class__")))
    (be_Taken:PySem.W.mroIn K c_Taken (.type "BaseException")=some true)
    (ob_Taken:PySem.W.mroIn K c_Taken (.type "object")=some true)
    (kp_Taken:PySem.W.keepIn K (.ref c_Taken)=true)
    (ci_Taken:PySem.W.clsIn K c_Taken=some cd_Taken)
    (ti_Taken:PySem.W.typeIn K (.ref c_Taken)=some (.type "type"))
    (ex_Taken:PySem.W.excIn K c_Taken bmV "ValueError.__new__" = true)
    (b_NoClass:PySem.W.nsIn K mainGlobals "NoClass" = some (some (.ref c_NoClass)))
    (hd_NoClass:PySem.W.hasDictIn K c_NoClass=true)
    (ga_NoClass:PySem.W.findIn K (.ref c_NoClass) "__getattribute__" = some (some (.builtin "BaseException.__getattribute__")))
    (gn_NoClass:PySem.W.findIn K (.ref c_NoClass) "__getattr__" = some none)
    (sa_NoClass:PySem.W.findIn K (.ref c_NoClass) "__setattr__" = some (some (.builtin "object.__setattr__")))
    (cl_NoClass:PySem.W.findIn K (.ref c_NoClass) "__class__" = some (some (.builtin "object.__class__")))
    (be_NoClass:PySem.W.mroIn K c_NoClass (.type "BaseException")=some true)
    (ob_NoClass:PySem.W.mroIn K c_NoClass (.type "object")=some true)
    (kp_NoClass:PySem.W.keepIn K (.ref c_NoClass)=true)
    (ci_NoClass:PySem.W.clsIn K c_NoClass=some cd_NoClass)
    (ti_NoClass:PySem.W.typeIn K (.ref c_NoClass)=some (.type "type"))
    (ex_NoClass:PySem.W.excIn K c_NoClass bmV "ValueError.__new__" = true)
    (b_NoPlace:PySem.W.nsIn K mainGlobals "NoPlace" = some (some (.ref c_NoPlace)))
    (hd_NoPlace:PySem.W.hasDictIn K c_NoPlace=true)
    (ga_NoPlace:PySem.W.findIn K (.ref c_NoPlace) "__getattribute__" = some (some (.builtin "BaseException.__getattribute__")))
    (gn_NoPlace:PySem.W.findIn K (.ref c_NoPlace) "__getattr__" = some none)
    (sa_NoPlace:PySem.W.findIn K (.ref c_NoPlace) "__setattr__" = some (some (.builtin "object.__setattr__")))
    (cl_NoPlace:PySem.W.findIn K (.ref c_NoPlace) "__class__" = some (some (.builtin "object.__class__")))
    (be_NoPlace:PySem.W.mroIn K c_NoPlace (.type "BaseException")=some true)
    (ob_NoPlace:PySem.W.mroIn K c_NoPlace (.type "object")=some true)
    (kp_NoPlace:PySem.W.keepIn K (.ref c_NoPlace)=true)
    (ci_NoPlace:PySem.W.clsIn K c_NoPlace=some cd_NoPlace)
    (ti_NoPlace:PySem.W.typeIn K (.ref c_NoPlace)=some (.type "type"))
    (ex_NoPlace:PySem.W.excIn K c_NoPlace bmV "ValueError.__new__" = true)
    (b_NoShare:PySem.W.nsIn K mainGlobals "NoShare" = some (some (.ref c_NoShare)))
    (hd_NoShare:PySem.W.hasDictIn K c_NoShare=true)
    (ga_NoShare:PySem.W.findIn K (.ref c_NoShare) "__getattribute__" = some (some (.builtin "BaseException.__getattribute__")))
    (gn_NoShare:PySem.W.findIn K (.ref c_NoShare) "__getattr__" = some none)
    (sa_NoShare:PySem.W.findIn K (.ref c_NoShare) "__setattr__" = some (some (.builtin "object.__setattr__")))
    (cl_NoShare:PySem.W.findIn K (.ref c_NoShare) "__class__" = some (some (.builtin "object.__class__")))
    (be_NoShare:PySem.W.mroIn K c_NoShare (.type "BaseException")=some true)
    (ob_NoShare:PySem.W.mroIn K c_NoShare (.type "object")=some true)
    (kp_NoShare:PySem.W.keepIn K (.ref c_NoShare)=true)
    (ci_NoShare:PySem.W.clsIn K c_NoShare=some cd_NoShare)
    (ti_NoShare:PySem.W.typeIn K (.ref c_NoShare)=some (.type "type"))
    (ex_NoShare:PySem.W.excIn K c_NoShare bmV "ValueError.__new__" = true)
    (b_NoLength:PySem.W.nsIn K mainGlobals "NoLength" = some (some (.ref c_NoLength)))
    (hd_NoLength:PySem.W.hasDictIn K c_NoLength=true)
    (ga_NoLength:PySem.W.findIn K (.ref c_NoLength) "__getattribute__" = some (some (.builtin "BaseException.__getattribute__")))
    (gn_NoLength:PySem.W.findIn K (.ref c_NoLength) "__getattr__" = some none)
    (sa_NoLength:PySem.W.findIn K (.ref c_NoLength) "__setattr__" = some (some (.builtin "object.__setattr__")))
    (cl_NoLength:PySem.W.findIn K (.ref c_NoLength) "__class__" = some (some (.builtin "object.__class__")))
    (be_NoLength:PySem.W.mroIn K c_NoLength (.type "BaseException")=some true)
    (ob_NoLength:PySem.W.mroIn K c_NoLength (.type "object")=some true)
    (kp_NoLength:PySem.W.keepIn K (.ref c_NoLength)=true)
    (ci_NoLength:PySem.W.clsIn K c_NoLength=some cd_NoLength)
    (ti_NoLength:PySem.W.typeIn K (.ref c_NoLength)=some (.type "type"))
    (ex_NoLength:PySem.W.excIn K c_NoLength bmV "ValueError.__new__" = true)
    (kg:PySem.W.specialIn K (.builtin "object.__class__") "__get__" = some (some (.builtin "getset_descriptor.__get__")))
    (kt:PySem.W.takesIn K (.builtin "object.__class__")=some true)
    (s_NoName_WheelError:PySem.W.subIn K (.ref c_NoName) (.ref c_WheelError)=some true)
    (n_NoName_WheelError:(Value.ref c_NoName == Value.ref c_WheelError)=false)
    (s_NoName_NoName:PySem.W.subIn K (.ref c_NoName) (.ref c_NoName)=some true)
    (s_NoName_Taken:PySem.W.subIn K (.ref c_NoName) (.ref c_Taken)=some false)
    (n_NoName_Taken:(Value.ref c_NoName == Value.ref c_Taken)=false)
    (s_NoName_NoClass:PySem.W.subIn K (.ref c_NoName) (.ref c_NoClass)=some false)
    (n_NoName_NoClass:(Value.ref c_NoName == Value.ref c_NoClass)=false)
    (s_NoName_NoPlace:PySem.W.subIn K (.ref c_NoName) (.ref c_NoPlace)=some false)
    (n_NoName_NoPlace:(Value.ref c_NoName == Value.ref c_NoPlace)=false)
    (s_NoName_NoShare:PySem.W.subIn K (.ref c_NoName) (.ref c_NoShare)=some false)
    (n_NoName_NoShare:(Value.ref c_NoName == Value.ref c_NoShare)=false)
    (s_NoName_NoLength:PySem.W.subIn K (.ref c_NoName) (.ref c_NoLength)=some false)
    (n_NoName_NoLength:(Value.ref c_NoName == Value.ref c_NoLength)=false)
    (v_NoName_VE:PySem.W.subIn K (.ref c_NoName) (.type "ValueError")=some true)
    (s_Taken_WheelError:PySem.W.subIn K (.ref c_Taken) (.ref c_WheelError)=some true)
    (n_Taken_WheelError:(Value.ref c_Taken == Value.ref c_WheelError)=false)
    (s_Taken_NoName:PySem.W.subIn K (.ref c_Taken) (.ref c_NoName)=some false)
    (n_Taken_NoName:(Value.ref c_Taken == Value.ref c_NoName)=false)
    (s_Taken_Taken:PySem.W.subIn K (.ref c_Taken) (.ref c_Taken)=some true)
    (s_Taken_NoClass:PySem.W.subIn K (.ref c_Taken) (.ref c_NoClass)=some false)
    (n_Taken_NoClass:(Value.ref c_Taken == Value.ref c_NoClass)=false)
    (s_Taken_NoPlace:PySem.W.subIn K (.ref c_Taken) (.ref c_NoPlace)=some false)
    (n_Taken_NoPlace:(Value.ref c_Taken == Value.ref c_NoPlace)=false)
    (s_Taken_NoShare:PySem.W.subIn K (.ref c_Taken) (.ref c_NoShare)=some false)
    (n_Taken_NoShare:(Value.ref c_Taken == Value.ref c_NoShare)=false)
    (s_Taken_NoLength:PySem.W.subIn K (.ref c_Taken) (.ref c_NoLength)=some false)
    (n_Taken_NoLength:(Value.ref c_Taken == Value.ref c_NoLength)=false)
    (v_Taken_VE:PySem.W.subIn K (.ref c_Taken) (.type "ValueError")=some true)
    (s_NoClass_WheelError:PySem.W.subIn K (.ref c_NoClass) (.ref c_WheelError)=some true)
    (n_NoClass_WheelError:(Value.ref c_NoClass == Value.ref c_WheelError)=false)
    (s_NoClass_NoName:PySem.W.subIn K (.ref c_NoClass) (.ref c_NoName)=some false)
    (n_NoClass_NoName:(Value.ref c_NoClass == Value.ref c_NoName)=false)
    (s_NoClass_Taken:PySem.W.subIn K (.ref c_NoClass) (.ref c_Taken)=some false)
    (n_NoClass_Taken:(Value.ref c_NoClass == Value.ref c_Taken)=false)
    (s_NoClass_NoClass:PySem.W.subIn K (.ref c_NoClass) (.ref c_NoClass)=some true)
    (s_NoClass_NoPlace:PySem.W.subIn K (.ref c_NoClass) (.ref c_NoPlace)=some false)
    (n_NoClass_NoPlace:(Value.ref c_NoClass == Value.ref c_NoPlace)=false)
    (s_NoClass_NoShare:PySem.W.subIn K (.ref c_NoClass) (.ref c_NoShare)=some false)
    (n_NoClass_NoShare:(Value.ref c_NoClass == Value.ref c_NoShare)=false)
    (s_NoClass_NoLength:PySem.W.subIn K (.ref c_NoClass) (.ref c_NoLength)=some false)
    (n_NoClass_NoLength:(Value.ref c_NoClass == Value.ref c_NoLength)=false)
    (v_NoClass_VE:PySem.W.subIn K (.ref c_NoClass) (.type "ValueError")=some true)
    (s_NoPlace_WheelError:PySem.W.subIn K (.ref c_NoPlace) (.ref c_WheelError)=some true)
    (n_NoPlace_WheelError:(Value.ref c_NoPlace == Value.ref c_WheelError)=false)
    (s_NoPlace_NoName:PySem.W.subIn K (.ref c_NoPlace) (.ref c_NoName)=some false)
    (n_NoPlace_NoName:(Value.ref c_NoPlace == Value.ref c_NoName)=false)
    (s_NoPlace_Taken:PySem.W.subIn K (.ref c_NoPlace) (.ref c_Taken)=some false)
    (n_NoPlace_Taken:(Value.ref c_NoPlace == Value.ref c_Taken)=false)
    (s_NoPlace_NoClass:PySem.W.subIn K (.ref c_NoPlace) (.ref c_NoClass)=some false)
    (n_NoPlace_NoClass:(Value.ref c_NoPlace == Value.ref c_NoClass)=false)
    (s_NoPlace_NoPlace:PySem.W.subIn K (.ref c_NoPlace) (.ref c_NoPlace)=some true)
    (s_NoPlace_NoShare:PySem.W.subIn K (.ref c_NoPlace) (.ref c_NoShare)=some false)
    (n_NoPlace_NoShare:(Value.ref c_NoPlace == Value.ref c_NoShare)=false)
    (s_NoPlace_NoLength:PySem.W.subIn K (.ref c_NoPlace) (.ref c_NoLength)=some false)
    (n_NoPlace_NoLength:(Value.ref c_NoPlace == Value.ref c_NoLength)=false)
    (v_NoPlace_VE:PySem.W.subIn K (.ref c_NoPlace) (.type "ValueError")=some true)
    (s_NoShare_WheelError:PySem.W.subIn K (.ref c_NoShare) (.ref c_WheelError)=some true)
    (n_NoShare_WheelError:(Value.ref c_NoShare == Value.ref c_WheelError)=false)
    (s_NoShare_NoName:PySem.W.subIn K (.ref c_NoShare) (.ref c_NoName)=some false)
    (n_NoShare_NoName:(Value.ref c_NoShare == Value.ref c_NoName)=false)
    (s_NoShare_Taken:PySem.W.subIn K (.ref c_NoShare) (.ref c_Taken)=some false)
    (n_NoShare_Taken:(Value.ref c_NoShare == Value.ref c_Taken)=false)
    (s_NoShare_NoClass:PySem.W.subIn K (.ref c_NoShare) (.ref c_NoClass)=some false)
    (n_NoShare_NoClass:(Value.ref c_NoShare == Value.ref c_NoClass)=false)
    (s_NoShare_NoPlace:PySem.W.subIn K (.ref c_NoShare) (.ref c_NoPlace)=some false)
    (n_NoShare_NoPlace:(Value.ref c_NoShare == Value.ref c_NoPlace)=false)
    (s_NoShare_NoShare:PySem.W.subIn K (.ref c_NoShare) (.ref c_NoShare)=some true)
    (s_NoShare_NoLength:PySem.W.subIn K (.ref c_NoShare) (.ref c_NoLength)=some false)
    (n_NoShare_NoLength:(Value.ref c_NoShare == Value.ref c_NoLength)=false)
    (v_NoShare_VE:PySem.W.subIn K (.ref c_NoShare) (.type "ValueError")=some true)
    (s_NoLength_WheelError:PySem.W.subIn K (.ref c_NoLength) (.ref c_WheelError)=some true)
    (n_NoLength_WheelError:(Value.ref c_NoLength == Value.ref c_WheelError)=false)
    (s_NoLength_NoName:PySem.W.subIn K (.ref c_NoLength) (.ref c_NoName)=some false)
    (n_NoLength_NoName:(Value.ref c_NoLength == Value.ref c_NoName)=false)
    (s_NoLength_Taken:PySem.W.subIn K (.ref c_NoLength) (.ref c_Taken)=some false)
    (n_NoLength_Taken:(Value.ref c_NoLength == Value.ref c_Taken)=false)
    (s_NoLength_NoClass:PySem.W.subIn K (.ref c_NoLength) (.ref c_NoClass)=some false)
    (n_NoLength_NoClass:(Value.ref c_NoLength == Value.ref c_NoClass)=false)
    (s_NoLength_NoPlace:PySem.W.subIn K (.ref c_NoLength) (.ref c_NoPlace)=some false)
    (n_NoLength_NoPlace:(Value.ref c_NoLength == Value.ref c_NoPlace)=false)
    (s_NoLength_NoShare:PySem.W.subIn K (.ref c_NoLength) (.ref c_NoShare)=some false)
    (n_NoLength_NoShare:(Value.ref c_NoLength == Value.ref c_NoShare)=false)
    (s_NoLength_NoLength:PySem.W.subIn K (.ref c_NoLength) (.ref c_NoLength)=some true)
    (v_NoLength_VE:PySem.W.subIn K (.ref c_NoLength) (.type "ValueError")=some true)
    (a1:PySem.W.nsIn K mainGlobals "divisor" = some (some (.ref f1))) (l1:K.lookup f1=some ⟨oc1,od1,.func (PySem.W.fnOf "divisor" "divisor" (zao zeh) (zam zeh) (zac zeh) .none kV1 dc1 pm1 an1 cd1 ct1),sl1⟩) (c1:PySem.W.codeIn K cd1 "divisor" = true) (k1:PySem.W.keepIn K (.ref f1)=true)
    (a2:PySem.W.nsIn K mainGlobals "ratio" = some (some (.ref f2))) (l2:K.lookup f2=some ⟨oc2,od2,.func (PySem.W.fnOf "ratio" "ratio" (zao zgm) (zam zgm) (zac zgm) .none kV2 dc2 pm2 an2 cd2 ct2),sl2⟩) (c2:PySem.W.codeIn K cd2 "ratio" = true) (k2:PySem.W.keepIn K (.ref f2)=true)
    (a3:PySem.W.nsIn K mainGlobals "under" = some (some (.ref f3))) (l3:K.lookup f3=some ⟨oc3,od3,.func (PySem.W.fnOf "under" "under" (zao zho) (zam zho) (zac zho) .none kV3 dc3 pm3 an3 cd3 ct3),sl3⟩) (c3:PySem.W.codeIn K cd3 "under" = true) (k3:PySem.W.keepIn K (.ref f3)=true)
    (a4:PySem.W.nsIn K mainGlobals "greater" = some (some (.ref f4))) (l4:K.lookup f4=some ⟨oc4,od4,.func (PySem.W.fnOf "greater" "greater" (zao zev) (zam zev) (zac zev) .none kV4 dc4 pm4 an4 cd4 ct4),sl4⟩) (c4:PySem.W.codeIn K cd4 "greater" = true) (k4:PySem.W.keepIn K (.ref f4)=true)
    (a5:PySem.W.nsIn K mainGlobals "check_share" = some (some (.ref f5))) (l5:K.lookup f5=some ⟨oc5,od5,.func (PySem.W.fnOf "check_share" "check_share" (zao zcq) (zam zcq) (zac zcq) .none kV5 dc5 pm5 an5 cd5 ct5),sl5⟩) (c5:PySem.W.codeIn K cd5 "check_share" = true) (k5:PySem.W.keepIn K (.ref f5)=true)
    (a6:PySem.W.nsIn K mainGlobals "check_most" = some (some (.ref f6))) (l6:K.lookup f6=some ⟨oc6,od6,.func (PySem.W.fnOf "check_most" "check_most" (zao zdc) (zam zdc) (zac zdc) .none kV6 dc6 pm6 an6 cd6 ct6),sl6⟩) (c6:PySem.W.codeIn K cd6 "check_most" = true) (k6:PySem.W.keepIn K (.ref f6)=true)
    (a7:PySem.W.nsIn K mainGlobals "is_name" = some (some (.ref f7))) (l7:K.lookup f7=some ⟨oc7,od7,.func (PySem.W.fnOf "is_name" "is_name" (zao zei) (zam zei) (zac zei) .none kV7 dc7 pm7 an7 cd7 ct7),sl7⟩) (c7:PySem.W.codeIn K cd7 "is_name" = true) (k7:PySem.W.keepIn K (.ref f7)=true)
    (a8:PySem.W.nsIn K mainGlobals "chooser_of" = some (some (.ref f8))) (l8:K.lookup f8=some ⟨oc8,od8,.func (PySem.W.fnOf "chooser_of" "chooser_of" (zao zdd) (zam zdd) (zac zdd) .none kV8 dc8 pm8 an8 cd8 ct8),sl8⟩) (c8:PySem.W.codeIn K cd8 "chooser_of" = true) (k8:PySem.W.keepIn K (.ref f8)=true)
    (a9:PySem.W.nsIn K mainGlobals "_law_cell_at" = some (some (.ref f9))) (l9:K.lookup f9=some ⟨oc9,od9,.func (PySem.W.fnOf "_law_cell_at" "_law_cell_at" (zao zci) (zam zci) (zac zci) .none kV9 dc9 pm9 an9 cd9 ct9),sl9⟩) (c9:PySem.W.codeIn K cd9 "_law_cell_at" = true) (k9:PySem.W.keepIn K (.ref f9)=true)
    (a10:PySem.W.nsIn K mainGlobals "_law_stream" = some (some (.ref f10))) (l10:K.lookup f10=some ⟨oc10,od10,.func (PySem.W.fnOf "_law_stream" "_law_stream" (zao zcr) (zam zcr) (zac zcr) .none kV10 dc10 pm10 an10 cd10 ct10),sl10⟩) (c10:PySem.W.codeIn K cd10 "_law_stream" = true) (k10:PySem.W.keepIn K (.ref f10)=true)
    (a11:PySem.W.nsIn K mainGlobals "_law_word" = some (some (.ref f11))) (l11:K.lookup f11=some ⟨oc11,od11,.func (PySem.W.fnOf "_law_word" "_law_word" (zao zdl) (zam zdl) (zac zdl) .none kV11 dc11 pm11 an11 cd11 ct11),sl11⟩) (c11:PySem.W.codeIn K cd11 "_law_word" = true) (k11:PySem.W.keepIn K (.ref f11)=true)
    (a12:PySem.W.nsIn K mainGlobals "_law_name" = some (some (.ref f12))) (l12:K.lookup f12=some ⟨oc12,od12,.func (PySem.W.fnOf "_law_name" "_law_name" (zao zdm) (zam zdm) (zac zdm) .none kV12 dc12 pm12 an12 cd12 ct12),sl12⟩) (c12:PySem.W.codeIn K cd12 "_law_name" = true) (k12:PySem.W.keepIn K (.ref f12)=true)
    (a13:PySem.W.nsIn K mainGlobals "_law_deep" = some (some (.ref f13))) (l13:K.lookup f13=some ⟨oc13,od13,.func (PySem.W.fnOf "_law_deep" "_law_deep" (zao zdn) (zam zdn) (zac zdn) .none kV13 dc13 pm13 an13 cd13 ct13),sl13⟩) (c13:PySem.W.codeIn K cd13 "_law_deep" = true) (k13:PySem.W.keepIn K (.ref f13)=true)
    (a14:PySem.W.nsIn K mainGlobals "_law_due" = some (some (.ref f14))) (l14:K.lookup f14=some ⟨oc14,od14,.func (PySem.W.fnOf "_law_due" "_law_due" (zao zds) (zam zds) (zac zds) .none kV14 dc14 pm14 an14 cd14 ct14),sl14⟩) (c14:PySem.W.codeIn K cd14 "_law_due" = true) (k14:PySem.W.keepIn K (.ref f14)=true)
    (a15:PySem.W.nsIn K mainGlobals "_law_other" = some (some (.ref f15))) (l15:K.lookup f15=some ⟨oc15,od15,.func (PySem.W.fnOf "_law_other" "_law_other" (zao zde) (zam zde) (zac zde) .none kV15 dc15 pm15 an15 cd15 ct15),sl15⟩) (c15:PySem.W.codeIn K cd15 "_law_other" = true) (k15:PySem.W.keepIn K (.ref f15)=true)
    (a16:PySem.W.nsIn K mainGlobals "_law_put" = some (some (.ref f16))) (l16:K.lookup f16=some ⟨oc16,od16,.func (PySem.W.fnOf "_law_put" "_law_put" (zao zdt) (zam zdt) (zac zdt) .none kV16 dc16 pm16 an16 cd16 ct16),sl16⟩) (c16:PySem.W.codeIn K cd16 "_law_put" = true) (k16:PySem.W.keepIn K (.ref f16)=true)
    (a17:PySem.W.nsIn K mainGlobals "_law_caught" = some (some (.ref f17))) (l17:K.lookup f17=some ⟨oc17,od17,.func (PySem.W.fnOf "_law_caught" "_law_caught" (zao zcs) (zam zcs) (zac zcs) .none kV17 dc17 pm17 an17 cd17 ct17),sl17⟩) (c17:PySem.W.codeIn K cd17 "_law_caught" = true) (k17:PySem.W.keepIn K (.ref f17)=true)
    (a18:PySem.W.nsIn K mainGlobals "_law_below" = some (some (.ref f18))) (l18:K.lookup f18=some ⟨oc18,od18,.func (PySem.W.fnOf "_law_below" "_law_below" (zao zdf) (zam zdf) (zac zdf) .none kV18 dc18 pm18 an18 cd18 ct18),sl18⟩) (c18:PySem.W.codeIn K cd18 "_law_below" = true) (k18:PySem.W.keepIn K (.ref f18)=true)
    (a19:PySem.W.nsIn K mainGlobals "_law_stranger" = some (some (.ref f19))) (l19:K.lookup f19=some ⟨oc19,od19,.func (PySem.W.fnOf "_law_stranger" "_law_stranger" (zao zcd) (zam zcd) (zac zcd) .none kV19 dc19 pm19 an19 cd19 ct19),sl19⟩) (c19:PySem.W.codeIn K cd19 "_law_stranger" = true) (k19:PySem.W.keepIn K (.ref f19)=true)
    (a20:PySem.W.nsIn K mainGlobals "_law_all_stand" = some (some (.ref f20))) (l20:K.lookup f20=some ⟨oc20,od20,.func (PySem.W.fnOf "_law_all_stand" "_law_all_stand" (zao zbt) (zam zbt) (zac zbt) .none kV20 dc20 pm20 an20 cd20 ct20),sl20⟩) (c20:PySem.W.codeIn K cd20 "_law_all_stand" = true) (k20:PySem.W.keepIn K (.ref f20)=true)
    (a21:PySem.W.nsIn K mainGlobals "law" = some (some (.ref f21))) (l21:K.lookup f21=some ⟨oc21,od21,.func (PySem.W.fnOf "law" "law" (zao s_law) (zam s_law) (zac s_law) .none kV21 dc21 pm21 an21 cd21 ct21),sl21⟩) (c21:PySem.W.codeIn K cd21 "law" = true) (k21:PySem.W.keepIn K (.ref f21)=true)
    (z1:PySem.W.nsIn K mainGlobals "abs" = some none)
    (z2:PySem.W.nsIn K mainGlobals "all" = some none)
    (z3:PySem.W.nsIn K mainGlobals "len" = some none)
    (z4:PySem.W.nsIn K mainGlobals "range" = some none)
    (z5:PySem.W.nsIn K mainGlobals "isinstance" = some none)
    (z6:PySem.W.nsIn K mainGlobals "ValueError" = some none)
    (z7:PySem.W.nsIn K mainGlobals "list" = some none)
    (v_GREATEST_SHARE:PySem.W.nsIn K mainGlobals "GREATEST_SHARE" = some (some (.int 1000000 tk_GREATEST_SHARE)))
    (v_GREATEST_LENGTH:PySem.W.nsIn K mainGlobals "GREATEST_LENGTH" = some (some (.int 1000000 tk_GREATEST_LENGTH)))
    (v_LETTERS:PySem.W.nsIn K mainGlobals "LETTERS" = some (some (.str (Str.ofString "abcdefghijklmnopqrstuvwxyz") tk_LETTERS)))
    (v_LONGEST_NAME:PySem.W.nsIn K mainGlobals "LONGEST_NAME" = some (some (.int 8 tk_LONGEST_NAME)))
    (v_ROAD:PySem.W.nsIn K mainGlobals "ROAD" = some (some (.str (Str.ofString "road") tk_ROAD)))
    (v_INNER_KINDS:PySem.W.nsIn K mainGlobals "INNER_KINDS" = some (some (.ref tu_INNER_KINDS)))
    (w_INNER_KINDS:K.lookup tu_INNER_KINDS=some ⟨.type "tuple", td_INNER_KINDS,.seq #[.str (Str.ofString "starts") tk0_INNER_KINDS,.str (Str.ofString "rounds") tk1_INNER_KINDS] tn_INNER_KINDS,tl_INNER_KINDS⟩)
    (v_LONGEST_WAY:PySem.W.nsIn K mainGlobals "LONGEST_WAY" = some (some (.int 5 tk_LONGEST_WAY)))
    (v_LEAF:PySem.W.nsIn K mainGlobals "LEAF" = some (some (.str (Str.ofString "leaf") tk_LEAF)))
    {c_Members:Addr}
    (b_Members:PySem.W.nsIn K mainGlobals "Members" = some (some (.ref c_Members)))
    (pg_Members:PySem.W.plainGet K c_Members Str.empty=true)
    (hd_Members:PySem.W.hasDictIn K c_Members=true)
    (po_Members:PySem.W.plainOver K c_Members=true)
    (sa_Members:PySem.W.findIn K (.ref c_Members) "__setattr__" = some (some (.builtin "object.__setattr__")))
    (mk_Members:PySem.W.makesIn K c_Members=true)
    (kc_Members:PySem.W.keepIn K (.ref c_Members)=true)
    (na_Members_shares:PySem.W.findIn K (.ref c_Members) "shares" = some none)
    {i_Members_init:Addr} {od_Members_init an_Members_init:Option Addr} {sl_Members_init:Array (Option Value)} {oc_Members_init kV_Members_init dc_Members_init pm_Members_init co_Members_init ct_Members_init:Value}
    (a_Members_init:PySem.W.findIn K (.ref c_Members) "__init__" = some (some (.ref i_Members_init)))
    (i_Members_init_fn:PySem.W.isFn K (.ref i_Members_init)=true)
    (l_Members_init:K.lookup i_Members_init=some ⟨oc_Members_init,od_Members_init,.func (PySem.W.fnOf "__init__" "Members.__init__" (zao zbx) (zam zbx) (zac zbx) .none kV_Members_init dc_Members_init pm_Members_init an_Members_init co_Members_init ct_Members_init),sl_Members_init⟩)
    (c_Members_init_cd:PySem.W.codeIn K co_Members_init "Members.__init__" = true)
    (k_Members_init:PySem.W.keepIn K (.ref i_Members_init)=true)
    {i_Members_check_name:Addr} {od_Members_check_name an_Members_check_name:Option Addr} {sl_Members_check_name:Array (Option Value)} {oc_Members_check_name kV_Members_check_name dc_Members_check_name pm_Members_check_name co_Members_check_name ct_Members_check_name:Value}
    (a_Members_check_name:PySem.W.findIn K (.ref c_Members) "check_name" = some (some (.ref i_Members_check_name)))
    (i_Members_check_name_fn:PySem.W.isFn K (.ref i_Members_check_name)=true)
    (l_Members_check_name:K.lookup i_Members_check_name=some ⟨oc_Members_check_name,od_Members_check_name,.func (PySem.W.fnOf "check_name" "Members.check_name" (zao zbc) (zam zbc) (zac zbc) .none kV_Members_check_name dc_Members_check_name pm_Members_check_name an_Members_check_name co_Members_check_name ct_Members_check_name),sl_Members_check_name⟩)
    (c_Members_check_name_cd:PySem.W.codeIn K co_Members_check_name "Members.check_name" = true)
    (k_Members_check_name:PySem.W.keepIn K (.ref i_Members_check_name)=true)
    {i_Members_put:Addr} {od_Members_put an_Members_put:Option Addr} {sl_Members_put:Array (Option Value)} {oc_Members_put kV_Members_put dc_Members_put pm_Members_put co_Members_put ct_Members_put:Value}
    (a_Members_put:PySem.W.findIn K (.ref c_Members) "put" = some (some (.ref i_Members_put)))
    (i_Members_put_fn:PySem.W.isFn K (.ref i_Members_put)=true)
    (l_Members_put:K.lookup i_Members_put=some ⟨oc_Members_put,od_Members_put,.func (PySem.W.fnOf "put" "Members.put" (zao zcf) (zam zcf) (zac zcf) .none kV_Members_put dc_Members_put pm_Members_put an_Members_put co_Members_put ct_Members_put),sl_Members_put⟩)
    (c_Members_put_cd:PySem.W.codeIn K co_Members_put "Members.put" = true)
    (k_Members_put:PySem.W.keepIn K (.ref i_Members_put)=true)
    {i_Members_names:Addr} {od_Members_names an_Members_names:Option Addr} {sl_Members_names:Array (Option Value)} {oc_Members_names kV_Members_names dc_Members_names pm_Members_names co_Members_names ct_Members_names:Value}
    (a_Members_names:PySem.W.findIn K (.ref c_Members) "names" = some (some (.ref i_Members_names)))
    (i_Members_names_fn:PySem.W.isFn K (.ref i_Members_names)=true)
    (l_Members_names:K.lookup i_Members_names=some ⟨oc_Members_names,od_Members_names,.func (PySem.W.fnOf "names" "Members.names" (zao zbs) (zam zbs) (zac zbs) .none kV_Members_names dc_Members_names pm_Members_names an_Members_names co_Members_names ct_Members_names),sl_Members_names⟩)
    (c_Members_names_cd:PySem.W.codeIn K co_Members_names "Members.names" = true)
    (k_Members_names:PySem.W.keepIn K (.ref i_Members_names)=true)
    {c_Chooser:Addr}
    (b_Chooser:PySem.W.nsIn K mainGlobals "Chooser" = some (some (.ref c_Chooser)))
    {c_Starts:Addr}
    (b_Starts:PySem.W.nsIn K mainGlobals "Starts" = some (some (.ref c_Starts)))
    (pg_Starts:PySem.W.plainGet K c_Starts Str.empty=true)
    (hd_Starts:PySem.W.hasDictIn K c_Starts=true)
    (po_Starts:PySem.W.plainOver K c_Starts=true)
    (sa_Starts:PySem.W.findIn K (.ref c_Starts) "__setattr__" = some (some (.builtin "object.__setattr__")))
    (mk_Starts:PySem.W.makesIn K c_Starts=true)
    (kc_Starts:PySem.W.keepIn K (.ref c_Starts)=true)
    (na_Starts_reached:PySem.W.findIn K (.ref c_Starts) "reached" = some none)
    (na_Starts_tags:PySem.W.findIn K (.ref c_Starts) "tags" = some none)
    (na_Starts_greatest_steps:PySem.W.findIn K (.ref c_Starts) "greatest_steps" = some none)
    (na_Starts_most:PySem.W.findIn K (.ref c_Starts) "most" = some none)
    (na_Starts_members:PySem.W.findIn K (.ref c_Starts) "members" = some none)
    (na_Starts_chosen:PySem.W.findIn K (.ref c_Starts) "chosen" = some none)
    {i_Starts_init:Addr} {od_Starts_init an_Starts_init:Option Addr} {sl_Starts_init:Array (Option Value)} {oc_Starts_init kV_Starts_init dc_Starts_init pm_Starts_init co_Starts_init ct_Starts_init:Value}
    (a_Starts_init:PySem.W.findIn K (.ref c_Starts) "__init__" = some (some (.ref i_Starts_init)))
    (i_Starts_init_fn:PySem.W.isFn K (.ref i_Starts_init)=true)
    (l_Starts_init:K.lookup i_Starts_init=some ⟨oc_Starts_init,od_Starts_init,.func (PySem.W.fnOf "__init__" "Starts.__init__" (zao zcg) (zam zcg) (zac zcg) .none kV_Starts_init dc_Starts_init pm_Starts_init an_Starts_init co_Starts_init ct_Starts_init),sl_Starts_init⟩)
    (c_Starts_init_cd:PySem.W.codeIn K co_Starts_init "Starts.__init__" = true)
    (k_Starts_init:PySem.W.keepIn K (.ref i_Starts_init)=true)
    {i_Starts_enter:Addr} {od_Starts_enter an_Starts_enter:Option Addr} {sl_Starts_enter:Array (Option Value)} {oc_Starts_enter kV_Starts_enter dc_Starts_enter pm_Starts_enter co_Starts_enter ct_Starts_enter:Value}
    (a_Starts_enter:PySem.W.findIn K (.ref c_Starts) "enter" = some (some (.ref i_Starts_enter)))
    (i_Starts_enter_fn:PySem.W.isFn K (.ref i_Starts_enter)=true)
    (l_Starts_enter:K.lookup i_Starts_enter=some ⟨oc_Starts_enter,od_Starts_enter,.func (PySem.W.fnOf "enter" "Starts.enter" (zao zby) (zam zby) (zac zby) .none kV_Starts_enter dc_Starts_enter pm_Starts_enter an_Starts_enter co_Starts_enter ct_Starts_enter),sl_Starts_enter⟩)
    (c_Starts_enter_cd:PySem.W.codeIn K co_Starts_enter "Starts.enter" = true)
    (k_Starts_enter:PySem.W.keepIn K (.ref i_Starts_enter)=true)
    {i_Starts_stands:Addr} {od_Starts_stands an_Starts_stands:Option Addr} {sl_Starts_stands:Array (Option Value)} {oc_Starts_stands kV_Starts_stands dc_Starts_stands pm_Starts_stands co_Starts_stands ct_Starts_stands:Value}
    (a_Starts_stands:PySem.W.findIn K (.ref c_Starts) "stands" = some (some (.ref i_Starts_stands)))
    (i_Starts_stands_fn:PySem.W.isFn K (.ref i_Starts_stands)=true)
    (l_Starts_stands:K.lookup i_Starts_stands=some ⟨oc_Starts_stands,od_Starts_stands,.func (PySem.W.fnOf "stands" "Starts.stands" (zao zce) (zam zce) (zac zce) .none kV_Starts_stands dc_Starts_stands pm_Starts_stands an_Starts_stands co_Starts_stands ct_Starts_stands),sl_Starts_stands⟩)
    (c_Starts_stands_cd:PySem.W.codeIn K co_Starts_stands "Starts.stands" = true)
    (k_Starts_stands:PySem.W.keepIn K (.ref i_Starts_stands)=true)
    {i_Starts_up_Chooser:Addr} {od_Starts_up_Chooser an_Starts_up_Chooser:Option Addr} {sl_Starts_up_Chooser:Array (Option Value)} {oc_Starts_up_Chooser kV_Starts_up_Chooser dc_Starts_up_Chooser pm_Starts_up_Chooser co_Starts_up_Chooser ct_Starts_up_Chooser:Value}
    (a_Starts_up_Chooser:PySem.W.findIn K (.ref c_Chooser) "__init__" = some (some (.ref i_Starts_up_Chooser)))
    (i_Starts_up_Chooser_fn:PySem.W.isFn K (.ref i_Starts_up_Chooser)=true)
    (l_Starts_up_Chooser:K.lookup i_Starts_up_Chooser=some ⟨oc_Starts_up_Chooser,od_Starts_up_Chooser,.func (PySem.W.fnOf "__init__" "Chooser.__init__" (zao zay) (zam zay) (zac zay) .none kV_Starts_up_Chooser dc_Starts_up_Chooser pm_Starts_up_Chooser an_Starts_up_Chooser co_Starts_up_Chooser ct_Starts_up_Chooser),sl_Starts_up_Chooser⟩)
    (c_Starts_up_Chooser_cd:PySem.W.codeIn K co_Starts_up_Chooser "Chooser.__init__" = true)
    (r_Starts_up_Chooser:PySem.W.readsIn K c_Chooser (.type "type")=true)
    (q_Starts_up_Chooser:PySem.W.findCls K (.ref c_Chooser) (.type "type") "__init__" = some (.val (.ref i_Starts_up_Chooser)))
    (g_Starts_up_Chooser:PySem.W.specialIn K (.ref c_Chooser) "__getattribute__" = some (some (.builtin "type.__getattribute__")))
    (k_Starts_up_Chooser:PySem.W.keepIn K (.ref i_Starts_up_Chooser)=true)
    {i_Starts_put:Addr} {od_Starts_put an_Starts_put:Option Addr} {sl_Starts_put:Array (Option Value)} {oc_Starts_put kV_Starts_put dc_Starts_put pm_Starts_put co_Starts_put ct_Starts_put:Value}
    (a_Starts_put:PySem.W.findIn K (.ref c_Starts) "put" = some (some (.ref i_Starts_put)))
    (i_Starts_put_fn:PySem.W.isFn K (.ref i_Starts_put)=true)
    (l_Starts_put:K.lookup i_Starts_put=some ⟨oc_Starts_put,od_Starts_put,.func (PySem.W.fnOf "put" "Chooser.put" (zao zcn) (zam zcn) (zac zcn) .none kV_Starts_put dc_Starts_put pm_Starts_put an_Starts_put co_Starts_put ct_Starts_put),sl_Starts_put⟩)
    (c_Starts_put_cd:PySem.W.codeIn K co_Starts_put "Chooser.put" = true)
    (k_Starts_put:PySem.W.keepIn K (.ref i_Starts_put)=true)
    {i_Starts_names:Addr} {od_Starts_names an_Starts_names:Option Addr} {sl_Starts_names:Array (Option Value)} {oc_Starts_names kV_Starts_names dc_Starts_names pm_Starts_names co_Starts_names ct_Starts_names:Value}
    (a_Starts_names:PySem.W.findIn K (.ref c_Starts) "names" = some (some (.ref i_Starts_names)))
    (i_Starts_names_fn:PySem.W.isFn K (.ref i_Starts_names)=true)
    (l_Starts_names:K.lookup i_Starts_names=some ⟨oc_Starts_names,od_Starts_names,.func (PySem.W.fnOf "names" "Chooser.names" (zao zbz) (zam zbz) (zac zbz) .none kV_Starts_names dc_Starts_names pm_Starts_names an_Starts_names co_Starts_names ct_Starts_names),sl_Starts_names⟩)
    (c_Starts_names_cd:PySem.W.codeIn K co_Starts_names "Chooser.names" = true)
    (k_Starts_names:PySem.W.keepIn K (.ref i_Starts_names)=true)
    {c_Rounds:Addr}
    (b_Rounds:PySem.W.nsIn K mainGlobals "Rounds" = some (some (.ref c_Rounds)))
    (pg_Rounds:PySem.W.plainGet K c_Rounds Str.empty=true)
    (hd_Rounds:PySem.W.hasDictIn K c_Rounds=true)
    (po_Rounds:PySem.W.plainOver K c_Rounds=true)
    (sa_Rounds:PySem.W.findIn K (.ref c_Rounds) "__setattr__" = some (some (.builtin "object.__setattr__")))
    (mk_Rounds:PySem.W.makesIn K c_Rounds=true)
    (kc_Rounds:PySem.W.keepIn K (.ref c_Rounds)=true)
    (na_Rounds_queue:PySem.W.findIn K (.ref c_Rounds) "queue" = some none)
    (na_Rounds_rests:PySem.W.findIn K (.ref c_Rounds) "rests" = some none)
    (na_Rounds_turn:PySem.W.findIn K (.ref c_Rounds) "turn" = some none)
    (na_Rounds_most:PySem.W.findIn K (.ref c_Rounds) "most" = some none)
    (na_Rounds_members:PySem.W.findIn K (.ref c_Rounds) "members" = some none)
    (na_Rounds_chosen:PySem.W.findIn K (.ref c_Rounds) "chosen" = some none)
    {i_Rounds_init:Addr} {od_Rounds_init an_Rounds_init:Option Addr} {sl_Rounds_init:Array (Option Value)} {oc_Rounds_init kV_Rounds_init dc_Rounds_init pm_Rounds_init co_Rounds_init ct_Rounds_init:Value}
    (a_Rounds_init:PySem.W.findIn K (.ref c_Rounds) "__init__" = some (some (.ref i_Rounds_init)))
    (i_Rounds_init_fn:PySem.W.isFn K (.ref i_Rounds_init)=true)
    (l_Rounds_init:K.lookup i_Rounds_init=some ⟨oc_Rounds_init,od_Rounds_init,.func (PySem.W.fnOf "__init__" "Rounds.__init__" (zao zch) (zam zch) (zac zch) .none kV_Rounds_init dc_Rounds_init pm_Rounds_init an_Rounds_init co_Rounds_init ct_Rounds_init),sl_Rounds_init⟩)
    (c_Rounds_init_cd:PySem.W.codeIn K co_Rounds_init "Rounds.__init__" = true)
    (k_Rounds_init:PySem.W.keepIn K (.ref i_Rounds_init)=true)
    {i_Rounds_enter:Addr} {od_Rounds_enter an_Rounds_enter:Option Addr} {sl_Rounds_enter:Array (Option Value)} {oc_Rounds_enter kV_Rounds_enter dc_Rounds_enter pm_Rounds_enter co_Rounds_enter ct_Rounds_enter:Value}
    (a_Rounds_enter:PySem.W.findIn K (.ref c_Rounds) "enter" = some (some (.ref i_Rounds_enter)))
    (i_Rounds_enter_fn:PySem.W.isFn K (.ref i_Rounds_enter)=true)
    (l_Rounds_enter:K.lookup i_Rounds_enter=some ⟨oc_Rounds_enter,od_Rounds_enter,.func (PySem.W.fnOf "enter" "Rounds.enter" (zao zca) (zam zca) (zac zca) .none kV_Rounds_enter dc_Rounds_enter pm_Rounds_enter an_Rounds_enter co_Rounds_enter ct_Rounds_enter),sl_Rounds_enter⟩)
    (c_Rounds_enter_cd:PySem.W.codeIn K co_Rounds_enter "Rounds.enter" = true)
    (k_Rounds_enter:PySem.W.keepIn K (.ref i_Rounds_enter)=true)
    {i_Rounds_rest:Addr} {od_Rounds_rest an_Rounds_rest:Option Addr} {sl_Rounds_rest:Array (Option Value)} {oc_Rounds_rest kV_Rounds_rest dc_Rounds_rest pm_Rounds_rest co_Rounds_rest ct_Rounds_rest:Value}
    (a_Rounds_rest:PySem.W.findIn K (.ref c_Rounds) "rest" = some (some (.ref i_Rounds_rest)))
    (i_Rounds_rest_fn:PySem.W.isFn K (.ref i_Rounds_rest)=true)
    (l_Rounds_rest:K.lookup i_Rounds_rest=some ⟨oc_Rounds_rest,od_Rounds_rest,.func (PySem.W.fnOf "rest" "Rounds.rest" (zao zct) (zam zct) (zac zct) .none kV_Rounds_rest dc_Rounds_rest pm_Rounds_rest an_Rounds_rest co_Rounds_rest ct_Rounds_rest),sl_Rounds_rest⟩)
    (c_Rounds_rest_cd:PySem.W.codeIn K co_Rounds_rest "Rounds.rest" = true)
    (k_Rounds_rest:PySem.W.keepIn K (.ref i_Rounds_rest)=true)
    {i_Rounds_up_Chooser:Addr} {od_Rounds_up_Chooser an_Rounds_up_Chooser:Option Addr} {sl_Rounds_up_Chooser:Array (Option Value)} {oc_Rounds_up_Chooser kV_Rounds_up_Chooser dc_Rounds_up_Chooser pm_Rounds_up_Chooser co_Rounds_up_Chooser ct_Rounds_up_Chooser:Value}
    (a_Rounds_up_Chooser:PySem.W.findIn K (.ref c_Chooser) "__init__" = some (some (.ref i_Rounds_up_Chooser)))
    (i_Rounds_up_Chooser_fn:PySem.W.isFn K (.ref i_Rounds_up_Chooser)=true)
    (l_Rounds_up_Chooser:K.lookup i_Rounds_up_Chooser=some ⟨oc_Rounds_up_Chooser,od_Rounds_up_Chooser,.func (PySem.W.fnOf "__init__" "Chooser.__init__" (zao zaz) (zam zaz) (zac zaz) .none kV_Rounds_up_Chooser dc_Rounds_up_Chooser pm_Rounds_up_Chooser an_Rounds_up_Chooser co_Rounds_up_Chooser ct_Rounds_up_Chooser),sl_Rounds_up_Chooser⟩)
    (c_Rounds_up_Chooser_cd:PySem.W.codeIn K co_Rounds_up_Chooser "Chooser.__init__" = true)
    (r_Rounds_up_Chooser:PySem.W.readsIn K c_Chooser (.type "type")=true)
    (q_Rounds_up_Chooser:PySem.W.findCls K (.ref c_Chooser) (.type "type") "__init__" = some (.val (.ref i_Rounds_up_Chooser)))
    (g_Rounds_up_Chooser:PySem.W.specialIn K (.ref c_Chooser) "__getattribute__" = some (some (.builtin "type.__getattribute__")))
    (k_Rounds_up_Chooser:PySem.W.keepIn K (.ref i_Rounds_up_Chooser)=true)
    {i_Rounds_put:Addr} {od_Rounds_put an_Rounds_put:Option Addr} {sl_Rounds_put:Array (Option Value)} {oc_Rounds_put kV_Rounds_put dc_Rounds_put pm_Rounds_put co_Rounds_put ct_Rounds_put:Value}
    (a_Rounds_put:PySem.W.findIn K (.ref c_Rounds) "put" = some (some (.ref i_Rounds_put)))
    (i_Rounds_put_fn:PySem.W.isFn K (.ref i_Rounds_put)=true)
    (l_Rounds_put:K.lookup i_Rounds_put=some ⟨oc_Rounds_put,od_Rounds_put,.func (PySem.W.fnOf "put" "Chooser.put" (zao zco) (zam zco) (zac zco) .none kV_Rounds_put dc_Rounds_put pm_Rounds_put an_Rounds_put co_Rounds_put ct_Rounds_put),sl_Rounds_put⟩)
    (c_Rounds_put_cd:PySem.W.codeIn K co_Rounds_put "Chooser.put" = true)
    (k_Rounds_put:PySem.W.keepIn K (.ref i_Rounds_put)=true)
    {i_Rounds_names:Addr} {od_Rounds_names an_Rounds_names:Option Addr} {sl_Rounds_names:Array (Option Value)} {oc_Rounds_names kV_Rounds_names dc_Rounds_names pm_Rounds_names co_Rounds_names ct_Rounds_names:Value}
    (a_Rounds_names:PySem.W.findIn K (.ref c_Rounds) "names" = some (some (.ref i_Rounds_names)))
    (i_Rounds_names_fn:PySem.W.isFn K (.ref i_Rounds_names)=true)
    (l_Rounds_names:K.lookup i_Rounds_names=some ⟨oc_Rounds_names,od_Rounds_names,.func (PySem.W.fnOf "names" "Chooser.names" (zao zcb) (zam zcb) (zac zcb) .none kV_Rounds_names dc_Rounds_names pm_Rounds_names an_Rounds_names co_Rounds_names ct_Rounds_names),sl_Rounds_names⟩)
    (c_Rounds_names_cd:PySem.W.codeIn K co_Rounds_names "Chooser.names" = true)
    (k_Rounds_names:PySem.W.keepIn K (.ref i_Rounds_names)=true)
    {c_Node:Addr}
    (b_Node:PySem.W.nsIn K mainGlobals "Node" = some (some (.ref c_Node)))
    (pg_Node:PySem.W.plainGet K c_Node Str.empty=true)
    (hd_Node:PySem.W.hasDictIn K c_Node=true)
    (po_Node:PySem.W.plainOver K c_Node=true)
    (sa_Node:PySem.W.findIn K (.ref c_Node) "__setattr__" = some (some (.builtin "object.__setattr__")))
    (mk_Node:PySem.W.makesIn K c_Node=true)
    (kc_Node:PySem.W.keepIn K (.ref c_Node)=true)
    (na_Node_above:PySem.W.findIn K (.ref c_Node) "above" = some none)
    (na_Node_chooser:PySem.W.findIn K (.ref c_Node) "chooser" = some none)
    (na_Node_room:PySem.W.findIn K (.ref c_Node) "room" = some none)
    (na_Node_bucket:PySem.W.findIn K (.ref c_Node) "bucket" = some none)
    (na_Node_queue:PySem.W.findIn K (.ref c_Node) "queue" = some none)
    {i_Node_init:Addr} {od_Node_init an_Node_init:Option Addr} {sl_Node_init:Array (Option Value)} {oc_Node_init kV_Node_init dc_Node_init pm_Node_init co_Node_init ct_Node_init:Value}
    {dt_Node_init:Addr} {do_Node_init:Value} {dd_Node_init:Option Addr} {dn_Node_init:Nat} {dl_Node_init:Array (Option Value)}
    (a_Node_init:PySem.W.findIn K (.ref c_Node) "__init__" = some (some (.ref i_Node_init)))
    (i_Node_init_fn:PySem.W.isFn K (.ref i_Node_init)=true)
    (l_Node_init:K.lookup i_Node_init=some ⟨oc_Node_init,od_Node_init,.func (PySem.W.fnOf "__init__" "Node.__init__" (zao zbk) (zam zbk) (zac zbk) (.ref dt_Node_init) kV_Node_init dc_Node_init pm_Node_init an_Node_init co_Node_init ct_Node_init),sl_Node_init⟩)
    (c_Node_init_cd:PySem.W.codeIn K co_Node_init "Node.__init__" = true)
    (k_Node_init:PySem.W.keepIn K (.ref i_Node_init)=true)
    (dk_Node_init:K.lookup dt_Node_init=some ⟨do_Node_init,dd_Node_init,.seq #[.none] dn_Node_init,dl_Node_init⟩)
    {c_Tree:Addr}
    (b_Tree:PySem.W.nsIn K mainGlobals "Tree" = some (some (.ref c_Tree)))
    (pg_Tree:PySem.W.plainGet K c_Tree Str.empty=true)
    (hd_Tree:PySem.W.hasDictIn K c_Tree=true)
    (po_Tree:PySem.W.plainOver K c_Tree=true)
    (sa_Tree:PySem.W.findIn K (.ref c_Tree) "__setattr__" = some (some (.builtin "object.__setattr__")))
    (mk_Tree:PySem.W.makesIn K c_Tree=true)
    (kc_Tree:PySem.W.keepIn K (.ref c_Tree)=true)
    (na_Tree_most:PySem.W.findIn K (.ref c_Tree) "most" = some none)
    (na_Tree_nodes:PySem.W.findIn K (.ref c_Tree) "nodes" = some none)
    (na_Tree_time:PySem.W.findIn K (.ref c_Tree) "time" = some none)
    (na_Tree_free:PySem.W.findIn K (.ref c_Tree) "free" = some none)
    (na_Tree_counted:PySem.W.findIn K (.ref c_Tree) "counted" = some none)
    (na_Tree_gone:PySem.W.findIn K (.ref c_Tree) "gone" = some none)
    {i_Tree_init:Addr} {od_Tree_init an_Tree_init:Option Addr} {sl_Tree_init:Array (Option Value)} {oc_Tree_init kV_Tree_init dc_Tree_init pm_Tree_init co_Tree_init ct_Tree_init:Value}
    {dt_Tree_init:Addr} {do_Tree_init:Value} {dd_Tree_init:Option Addr} {dn_Tree_init:Nat} {dl_Tree_init:Array (Option Value)} {tk0_Tree_init:Tok}
    (a_Tree_init:PySem.W.findIn K (.ref c_Tree) "__init__" = some (some (.ref i_Tree_init)))
    (i_Tree_init_fn:PySem.W.isFn K (.ref i_Tree_init)=true)
    (l_Tree_init:K.lookup i_Tree_init=some ⟨oc_Tree_init,od_Tree_init,.func (PySem.W.fnOf "__init__" "Tree.__init__" (zao zbl) (zam zbl) (zac zbl) (.ref dt_Tree_init) kV_Tree_init dc_Tree_init pm_Tree_init an_Tree_init co_Tree_init ct_Tree_init),sl_Tree_init⟩)
    (c_Tree_init_cd:PySem.W.codeIn K co_Tree_init "Tree.__init__" = true)
    (k_Tree_init:PySem.W.keepIn K (.ref i_Tree_init)=true)
    (dk_Tree_init:K.lookup dt_Tree_init=some ⟨do_Tree_init,dd_Tree_init,.seq #[.str (Str.ofString "starts") tk0_Tree_init] dn_Tree_init,dl_Tree_init⟩)
    {i_Tree_check_class:Addr} {od_Tree_check_class an_Tree_check_class:Option Addr} {sl_Tree_check_class:Array (Option Value)} {oc_Tree_check_class kV_Tree_check_class dc_Tree_check_class pm_Tree_check_class co_Tree_check_class ct_Tree_check_class:Value}
    (a_Tree_check_class:PySem.W.findIn K (.ref c_Tree) "check_class" = some (some (.ref i_Tree_check_class)))
    (i_Tree_check_class_fn:PySem.W.isFn K (.ref i_Tree_check_class)=true)
    (l_Tree_check_class:K.lookup i_Tree_check_class=some ⟨oc_Tree_check_class,od_Tree_check_class,.func (PySem.W.fnOf "check_class" "Tree.check_class" (zao zba) (zam zba) (zac zba) .none kV_Tree_check_class dc_Tree_check_class pm_Tree_check_class an_Tree_check_class co_Tree_check_class ct_Tree_check_class),sl_Tree_check_class⟩)
    (c_Tree_check_class_cd:PySem.W.codeIn K co_Tree_check_class "Tree.check_class" = true)
    (k_Tree_check_class:PySem.W.keepIn K (.ref i_Tree_check_class)=true)
    {i_Tree_check_place:Addr} {od_Tree_check_place an_Tree_check_place:Option Addr} {sl_Tree_check_place:Array (Option Value)} {oc_Tree_check_place kV_Tree_check_place dc_Tree_check_place pm_Tree_check_place co_Tree_check_place ct_Tree_check_place:Value}
    (a_Tree_check_place:PySem.W.findIn K (.ref c_Tree) "check_place" = some (some (.ref i_Tree_check_place)))
    (i_Tree_check_place_fn:PySem.W.isFn K (.ref i_Tree_check_place)=true)
    (l_Tree_check_place:K.lookup i_Tree_check_place=some ⟨oc_Tree_check_place,od_Tree_check_place,.func (PySem.W.fnOf "check_place" "Tree.check_place" (zao zbb) (zam zbb) (zac zbb) .none kV_Tree_check_place dc_Tree_check_place pm_Tree_check_place an_Tree_check_place co_Tree_check_place ct_Tree_check_place),sl_Tree_check_place⟩)
    (c_Tree_check_place_cd:PySem.W.codeIn K co_Tree_check_place "Tree.check_place" = true)
    (k_Tree_check_place:PySem.W.keepIn K (.ref i_Tree_check_place)=true)
    {i_Tree_put:Addr} {od_Tree_put an_Tree_put:Option Addr} {sl_Tree_put:Array (Option Value)} {oc_Tree_put kV_Tree_put dc_Tree_put pm_Tree_put co_Tree_put ct_Tree_put:Value}
    {dt_Tree_put:Addr} {do_Tree_put:Value} {dd_Tree_put:Option Addr} {dn_Tree_put:Nat} {dl_Tree_put:Array (Option Value)}
    (a_Tree_put:PySem.W.findIn K (.ref c_Tree) "put" = some (some (.ref i_Tree_put)))
    (i_Tree_put_fn:PySem.W.isFn K (.ref i_Tree_put)=true)
    (l_Tree_put:K.lookup i_Tree_put=some ⟨oc_Tree_put,od_Tree_put,.func (PySem.W.fnOf "put" "Tree.put" (zao zbu) (zam zbu) (zac zbu) (.ref dt_Tree_put) kV_Tree_put dc_Tree_put pm_Tree_put an_Tree_put co_Tree_put ct_Tree_put),sl_Tree_put⟩)
    (c_Tree_put_cd:PySem.W.codeIn K co_Tree_put "Tree.put" = true)
    (k_Tree_put:PySem.W.keepIn K (.ref i_Tree_put)=true)
    (dk_Tree_put:K.lookup dt_Tree_put=some ⟨do_Tree_put,dd_Tree_put,.seq #[.none] dn_Tree_put,dl_Tree_put⟩)
    {i_Tree_way:Addr} {od_Tree_way an_Tree_way:Option Addr} {sl_Tree_way:Array (Option Value)} {oc_Tree_way kV_Tree_way dc_Tree_way pm_Tree_way co_Tree_way ct_Tree_way:Value}
    (a_Tree_way:PySem.W.findIn K (.ref c_Tree) "way" = some (some (.ref i_Tree_way)))
    (i_Tree_way_fn:PySem.W.isFn K (.ref i_Tree_way)=true)
    (l_Tree_way:K.lookup i_Tree_way=some ⟨oc_Tree_way,od_Tree_way,.func (PySem.W.fnOf "way" "Tree.way" (zao zdo) (zam zdo) (zac zdo) .none kV_Tree_way dc_Tree_way pm_Tree_way an_Tree_way co_Tree_way ct_Tree_way),sl_Tree_way⟩)
    (c_Tree_way_cd:PySem.W.codeIn K co_Tree_way "Tree.way" = true)
    (k_Tree_way:PySem.W.keepIn K (.ref i_Tree_way)=true)
    {i_Tree_below:Addr} {od_Tree_below an_Tree_below:Option Addr} {sl_Tree_below:Array (Option Value)} {oc_Tree_below kV_Tree_below dc_Tree_below pm_Tree_below co_Tree_below ct_Tree_below:Value}
    (a_Tree_below:PySem.W.findIn K (.ref c_Tree) "below" = some (some (.ref i_Tree_below)))
    (i_Tree_below_fn:PySem.W.isFn K (.ref i_Tree_below)=true)
    (l_Tree_below:K.lookup i_Tree_below=some ⟨oc_Tree_below,od_Tree_below,.func (PySem.W.fnOf "below" "Tree.below" (zao zcp) (zam zcp) (zac zcp) .none kV_Tree_below dc_Tree_below pm_Tree_below an_Tree_below co_Tree_below ct_Tree_below),sl_Tree_below⟩)
    (c_Tree_below_cd:PySem.W.codeIn K co_Tree_below "Tree.below" = true)
    (k_Tree_below:PySem.W.keepIn K (.ref i_Tree_below)=true)
    {i_Tree_from_road:Addr} {od_Tree_from_road an_Tree_from_road:Option Addr} {sl_Tree_from_road:Array (Option Value)} {oc_Tree_from_road kV_Tree_from_road dc_Tree_from_road pm_Tree_from_road co_Tree_from_road ct_Tree_from_road:Value}
    (a_Tree_from_road:PySem.W.findIn K (.ref c_Tree) "from_road" = some (some (.ref i_Tree_from_road)))
    (i_Tree_from_road_fn:PySem.W.isFn K (.ref i_Tree_from_road)=true)
    (l_Tree_from_road:K.lookup i_Tree_from_road=some ⟨oc_Tree_from_road,od_Tree_from_road,.func (PySem.W.fnOf "from_road" "Tree.from_road" (zao zbm) (zam zbm) (zac zbm) .none kV_Tree_from_road dc_Tree_from_road pm_Tree_from_road an_Tree_from_road co_Tree_from_road ct_Tree_from_road),sl_Tree_from_road⟩)
    (c_Tree_from_road_cd:PySem.W.codeIn K co_Tree_from_road "Tree.from_road" = true)
    (k_Tree_from_road:PySem.W.keepIn K (.ref i_Tree_from_road)=true)
    {cd_Chooser:ClassData}
    (ci_Chooser:PySem.W.clsIn K c_Chooser=some cd_Chooser)
    (ti_Chooser:PySem.W.typeIn K (.ref c_Chooser)=some (.type "type"))
    (ic_Starts:PySem.W.findIn K (.ref c_Starts) "__class__" = some (some (.builtin "object.__class__")))
    (io_Starts:PySem.W.mroIn K c_Starts (.type "object")=some true)
    (s_Starts_Chooser:PySem.W.subIn K (.ref c_Starts) (.ref c_Chooser)=some true)
    (n_Starts_Chooser:(Value.ref c_Starts == Value.ref c_Chooser)=false)
    (ic_Rounds:PySem.W.findIn K (.ref c_Rounds) "__class__" = some (some (.builtin "object.__class__")))
    (io_Rounds:PySem.W.mroIn K c_Rounds (.type "object")=some true)
    (s_Rounds_Chooser:PySem.W.subIn K (.ref c_Rounds) (.ref c_Chooser)=some true)
    (n_Rounds_Chooser:(Value.ref c_Rounds == Value.ref c_Chooser)=false)
    : ∃ fd:FuncData,(∀ (s:Shared) (v:Value),BindsTo s fd ⟨[v],[]⟩ [("_law_script", v)])/\∀ base:Heap,K.In base->base.Ns mainGlobals mg->FnOk l.prog w K mg base CX0 9 fa fd ["_law_script"] (spLaw K):=by
  have e:=hfa.symm.trans (PySem.W.mg_of X G a21)
  cases e
  have xc_WheelError:XC K c_WheelError:=⟨hd_WheelError,ga_WheelError,gn_WheelError,sa_WheelError,cl_WheelError,kg,kt,be_WheelError,ob_WheelError,zek ex_WheelError⟩
  have xc_NoName:XC K c_NoName:=⟨hd_NoName,ga_NoName,gn_NoName,sa_NoName,cl_NoName,kg,kt,be_NoName,ob_NoName,zek ex_NoName⟩
  have xc_Taken:XC K c_Taken:=⟨hd_Taken,ga_Taken,gn_Taken,sa_Taken,cl_Taken,kg,kt,be_Taken,ob_Taken,zek ex_Taken⟩
  have xc_NoClass:XC K c_NoClass:=⟨hd_NoClass,ga_NoClass,gn_NoClass,sa_NoClass,cl_NoClass,kg,kt,be_NoClass,ob_NoClass,zek ex_NoClass⟩
  have xc_NoPlace:XC K c_NoPlace:=⟨hd_NoPlace,ga_NoPlace,gn_NoPlace,sa_NoPlace,cl_NoPlace,kg,kt,be_NoPlace,ob_NoPlace,zek ex_NoPlace⟩
  have xc_NoShare:XC K c_NoShare:=⟨hd_NoShare,ga_NoShare,gn_NoShare,sa_NoShare,cl_NoShare,kg,kt,be_NoShare,ob_NoShare,zek ex_NoShare⟩
  have xc_NoLength:XC K c_NoLength:=⟨hd_NoLength,ga_NoLength,gn_NoLength,sa_NoLength,cl_NoLength,kg,kt,be_NoLength,ob_NoLength,zek ex_NoLength⟩
  have F1:=zax (st:=zeh) l1 c1 k1
  have F2:=zax (st:=zgm) l2 c2 k2
  have F3:=zax (st:=zho) l3 c3 k3
  have F4:=zax (st:=zev) l4 c4 k4
  have F5:=zax (st:=zcq) l5 c5 k5
  have F6:=zax (st:=zdc) l6 c6 k6
  have F7:=zax (st:=zei) l7 c7 k7
  have F8:=zax (st:=zdd) l8 c8 k8
  have F9:=zax (st:=zci) l9 c9 k9
  have F10:=zax (st:=zcr) l10 c10 k10
  have F11:=zax (st:=zdl) l11 c11 k11
  have F12:=zax (st:=zdm) l12 c12 k12
  have F13:=zax (st:=zdn) l13 c13 k13
  have F14:=zax (st:=zds) l14 c14 k14
  have F15:=zax (st:=zde) l15 c15 k15
  have F16:=zax (st:=zdt) l16 c16 k16
  have F17:=zax (st:=zcs) l17 c17 k17
  have F18:=zax (st:=zdf) l18 c18 k18
  have F19:=zax (st:=zcd) l19 c19 k19
  have F20:=zax (st:=zbt) l20 c20 k20
  have F_Members_init:=zbo (st:=zbx) l_Members_init c_Members_init_cd
  have B_Members_init:=(zax (st:=zbx) l_Members_init c_Members_init_cd k_Members_init).binds (ps:=["self"]) (fun _ _ _ _ _ _=>L2.el1 (fun _=>rfl))
  have F_Members_check_name:=zbo (st:=zbc) l_Members_check_name c_Members_check_name_cd
  have B_Members_check_name:=(zax (st:=zbc) l_Members_check_name c_Members_check_name_cd k_Members_check_name).binds (ps:=["self", "name"]) (fun _ _ _ _ _ _=>L2.el2 (fun _ _=>rfl))
  have F_Members_put:=zbo (st:=zcf) l_Members_put c_Members_put_cd
  have B_Members_put:=(zax (st:=zcf) l_Members_put c_Members_put_cd k_Members_put).binds (ps:=["self", "name", "share"]) (fun _ _ _ _ _ _=>L2.el3 (fun _ _ _=>rfl))
  have F_Members_names:=zbo (st:=zbs) l_Members_names c_Members_names_cd
  have B_Members_names:=(zax (st:=zbs) l_Members_names c_Members_names_cd k_Members_names).binds (ps:=["self"]) (fun _ _ _ _ _ _=>L2.el1 (fun _=>rfl))
  have F_Starts_init:=zbo (st:=zcg) l_Starts_init c_Starts_init_cd
  have B_Starts_init:=(zax (st:=zcg) l_Starts_init c_Starts_init_cd k_Starts_init).binds (ps:=["self", "most"]) (fun _ _ _ _ _ _=>L2.el2 (fun _ _=>rfl))
  have F_Starts_enter:=zbo (st:=zby) l_Starts_enter c_Starts_enter_cd
  have B_Starts_enter:=(zax (st:=zby) l_Starts_enter c_Starts_enter_cd k_Starts_enter).binds (ps:=["self", "name"]) (fun _ _ _ _ _ _=>L2.el2 (fun _ _=>rfl))
  have F_Starts_stands:=zbo (st:=zce) l_Starts_stands c_Starts_stands_cd
  have B_Starts_stands:=(zax (st:=zce) l_Starts_stands c_Starts_stands_cd k_Starts_stands).binds (ps:=["self", "name"]) (fun _ _ _ _ _ _=>L2.el2 (fun _ _=>rfl))
  have F_Starts_up_Chooser:=zbo (st:=zay) l_Starts_up_Chooser c_Starts_up_Chooser_cd
  have B_Starts_up_Chooser:=(zax (st:=zay) l_Starts_up_Chooser c_Starts_up_Chooser_cd k_Starts_up_Chooser).binds (ps:=["self", "most"]) (fun _ _ _ _ _ _=>L2.el2 (fun _ _=>rfl))
  have F_Starts_put:=zbo (st:=zcn) l_Starts_put c_Starts_put_cd
  have B_Starts_put:=(zax (st:=zcn) l_Starts_put c_Starts_put_cd k_Starts_put).binds (ps:=["self", "name", "share"]) (fun _ _ _ _ _ _=>L2.el3 (fun _ _ _=>rfl))
  have F_Starts_names:=zbo (st:=zbz) l_Starts_names c_Starts_names_cd
  have B_Starts_names:=(zax (st:=zbz) l_Starts_names c_Starts_names_cd k_Starts_names).binds (ps:=["self"]) (fun _ _ _ _ _ _=>L2.el1 (fun _=>rfl))
  have F_Rounds_init:=zbo (st:=zch) l_Rounds_init c_Rounds_init_cd
  have B_Rounds_init:=(zax (st:=zch) l_Rounds_init c_Rounds_init_cd k_Rounds_init).binds (ps:=["self", "most"]) (fun _ _ _ _ _ _=>L2.el2 (fun _ _=>rfl))
  have F_Rounds_enter:=zbo (st:=zca) l_Rounds_enter c_Rounds_enter_cd
  have B_Rounds_enter:=(zax (st:=zca) l_Rounds_enter c_Rounds_enter_cd k_Rounds_enter).binds (ps:=["self", "name"]) (fun _ _ _ _ _ _=>L2.el2 (fun _ _=>rfl))
  have F_Rounds_rest:=zbo (st:=zct) l_Rounds_rest c_Rounds_rest_cd
  have B_Rounds_rest:=(zax (st:=zct) l_Rounds_rest c_Rounds_rest_cd k_Rounds_rest).binds (ps:=["self", "name"]) (fun _ _ _ _ _ _=>L2.el2 (fun _ _=>rfl))
  have F_Rounds_up_Chooser:=zbo (st:=zaz) l_Rounds_up_Chooser c_Rounds_up_Chooser_cd
  have B_Rounds_up_Chooser:=(zax (st:=zaz) l_Rounds_up_Chooser c_Rounds_up_Chooser_cd k_Rounds_up_Chooser).binds (ps:=["self", "most"]) (fun _ _ _ _ _ _=>L2.el2 (fun _ _=>rfl))
  have F_Rounds_put:=zbo (st:=zco) l_Rounds_put c_Rounds_put_cd
  have B_Rounds_put:=(zax (st:=zco) l_Rounds_put c_Rounds_put_cd k_Rounds_put).binds (ps:=["self", "name", "share"]) (fun _ _ _ _ _ _=>L2.el3 (fun _ _ _=>rfl))
  have F_Rounds_names:=zbo (st:=zcb) l_Rounds_names c_Rounds_names_cd
  have B_Rounds_names:=(zax (st:=zcb) l_Rounds_names c_Rounds_names_cd k_Rounds_names).binds (ps:=["self"]) (fun _ _ _ _ _ _=>L2.el1 (fun _=>rfl))
  have F_Node_init:=zbo (st:=zbk) l_Node_init c_Node_init_cd
  have B0_Node_init:Binds K _ ["self", "above", "chooser", "room"] []:=zdr (fd:=PySem.W.fnOf "__init__" "Node.__init__" (zao zbk) (zam zbk) (zac zbk) (.ref dt_Node_init) kV_Node_init dc_Node_init pm_Node_init an_Node_init co_Node_init ct_Node_init) rfl dk_Node_init (fun us hl=>match us,(show us.length = 4 by simpa using hl) with | [_,_,_,_],_=>⟨_,rfl,rfl⟩)
  have B1_Node_init:Binds K _ ["self", "above", "chooser", "room"] [.none]:=zdr (fd:=PySem.W.fnOf "__init__" "Node.__init__" (zao zbk) (zam zbk) (zac zbk) (.ref dt_Node_init) kV_Node_init dc_Node_init pm_Node_init an_Node_init co_Node_init ct_Node_init) rfl dk_Node_init (fun us hl=>match us,(show us.length = 3 by simpa using hl) with | [_,_,_],_=>⟨_,rfl,rfl⟩)
  have F_Tree_init:=zbo (st:=zbl) l_Tree_init c_Tree_init_cd
  have B0_Tree_init:Binds K _ ["self", "most", "kind"] []:=zdr (fd:=PySem.W.fnOf "__init__" "Tree.__init__" (zao zbl) (zam zbl) (zac zbl) (.ref dt_Tree_init) kV_Tree_init dc_Tree_init pm_Tree_init an_Tree_init co_Tree_init ct_Tree_init) rfl dk_Tree_init (fun us hl=>match us,(show us.length = 3 by simpa using hl) with | [_,_,_],_=>⟨_,rfl,rfl⟩)
  have B1_Tree_init:Binds K _ ["self", "most", "kind"] [.str (Str.ofString "starts") tk0_Tree_init]:=zdr (fd:=PySem.W.fnOf "__init__" "Tree.__init__" (zao zbl) (zam zbl) (zac zbl) (.ref dt_Tree_init) kV_Tree_init dc_Tree_init pm_Tree_init an_Tree_init co_Tree_init ct_Tree_init) rfl dk_Tree_init (fun us hl=>match us,(show us.length = 2 by simpa using hl) with | [_,_],_=>⟨_,rfl,rfl⟩)
  have F_Tree_check_class:=zbo (st:=zba) l_Tree_check_class c_Tree_check_class_cd
  have B_Tree_check_class:=(zax (st:=zba) l_Tree_check_class c_Tree_check_class_cd k_Tree_check_class).binds (ps:=["self", "name"]) (fun _ _ _ _ _ _=>L2.el2 (fun _ _=>rfl))
  have F_Tree_check_place:=zbo (st:=zbb) l_Tree_check_place c_Tree_check_place_cd
  have B_Tree_check_place:=(zax (st:=zbb) l_Tree_check_place c_Tree_check_place_cd k_Tree_check_place).binds (ps:=["self", "under", "kind"]) (fun _ _ _ _ _ _=>L2.el3 (fun _ _ _=>rfl))
  have F_Tree_put:=zbo (st:=zbu) l_Tree_put c_Tree_put_cd
  have B0_Tree_put:Binds K _ ["self", "name", "under", "kind", "share", "room"] []:=zdr (fd:=PySem.W.fnOf "put" "Tree.put" (zao zbu) (zam zbu) (zac zbu) (.ref dt_Tree_put) kV_Tree_put dc_Tree_put pm_Tree_put an_Tree_put co_Tree_put ct_Tree_put) rfl dk_Tree_put (fun us hl=>match us,(show us.length = 6 by simpa using hl) with | [_,_,_,_,_,_],_=>⟨_,rfl,rfl⟩)
  have B1_Tree_put:Binds K _ ["self", "name", "under", "kind", "share", "room"] [.none]:=zdr (fd:=PySem.W.fnOf "put" "Tree.put" (zao zbu) (zam zbu) (zac zbu) (.ref dt_Tree_put) kV_Tree_put dc_Tree_put pm_Tree_put an_Tree_put co_Tree_put ct_Tree_put) rfl dk_Tree_put (fun us hl=>match us,(show us.length = 5 by simpa using hl) with | [_,_,_,_,_],_=>⟨_,rfl,rfl⟩)
  have F_Tree_way:=zbo (st:=zdo) l_Tree_way c_Tree_way_cd
  have B_Tree_way:=(zax (st:=zdo) l_Tree_way c_Tree_way_cd k_Tree_way).binds (ps:=["self", "name"]) (fun _ _ _ _ _ _=>L2.el2 (fun _ _=>rfl))
  have F_Tree_below:=zbo (st:=zcp) l_Tree_below c_Tree_below_cd
  have B_Tree_below:=(zax (st:=zcp) l_Tree_below c_Tree_below_cd k_Tree_below).binds (ps:=["self", "name"]) (fun _ _ _ _ _ _=>L2.el2 (fun _ _=>rfl))
  have F_Tree_from_road:=zbo (st:=zbm) l_Tree_from_road c_Tree_from_road_cd
  have B_Tree_from_road:=(zax (st:=zbm) l_Tree_from_road c_Tree_from_road_cd k_Tree_from_road).binds (ps:=["self", "name"]) (fun _ _ _ _ _ _=>L2.el2 (fun _ _=>rfl))
  have T:Txt K mg c_WheelError c_NoName c_Taken c_NoClass c_NoPlace c_NoShare c_NoLength c_Members c_Chooser c_Starts c_Rounds c_Node c_Tree:=⟨PySem.W.mg_of X G b_WheelError,xc_WheelError,kp_WheelError,ex_WheelError,PySem.W.mg_of X G b_NoName,xc_NoName,kp_NoName,ex_NoName,PySem.W.mg_of X G b_Taken,xc_Taken,kp_Taken,ex_Taken,PySem.W.mg_of X G b_NoClass,xc_NoClass,kp_NoClass,ex_NoClass,PySem.W.mg_of X G b_NoPlace,xc_NoPlace,kp_NoPlace,ex_NoPlace,PySem.W.mg_of X G b_NoShare,xc_NoShare,kp_NoShare,ex_NoShare,PySem.W.mg_of X G b_NoLength,xc_NoLength,kp_NoLength,ex_NoLength,s_NoName_WheelError,zbd n_NoName_WheelError ci_WheelError ti_WheelError s_NoName_WheelError,s_NoName_NoName,zez,s_NoName_Taken,zbd n_NoName_Taken ci_Taken ti_Taken s_NoName_Taken,s_NoName_NoClass,zbd n_NoName_NoClass ci_NoClass ti_NoClass s_NoName_NoClass,s_NoName_NoPlace,zbd n_NoName_NoPlace ci_NoPlace ti_NoPlace s_NoName_NoPlace,s_NoName_NoShare,zbd n_NoName_NoShare ci_NoShare ti_NoShare s_NoName_NoShare,s_NoName_NoLength,zbd n_NoName_NoLength ci_NoLength ti_NoLength s_NoName_NoLength,zim v_NoName_VE,s_Taken_WheelError,zbd n_Taken_WheelError ci_WheelError ti_WheelError s_Taken_WheelError,s_Taken_NoName,zbd n_Taken_NoName ci_NoName ti_NoName s_Taken_NoName,s_Taken_Taken,zez,s_Taken_NoClass,zbd n_Taken_NoClass ci_NoClass ti_NoClass s_Taken_NoClass,s_Taken_NoPlace,zbd n_Taken_NoPlace ci_NoPlace ti_NoPlace s_Taken_NoPlace,s_Taken_NoShare,zbd n_Taken_NoShare ci_NoShare ti_NoShare s_Taken_NoShare,s_Taken_NoLength,zbd n_Taken_NoLength ci_NoLength ti_NoLength s_Taken_NoLength,zim v_Taken_VE,s_NoClass_WheelError,zbd n_NoClass_WheelError ci_WheelError ti_WheelError s_NoClass_WheelError,s_NoClass_NoName,zbd n_NoClass_NoName ci_NoName ti_NoName s_NoClass_NoName,s_NoClass_Taken,zbd n_NoClass_Taken ci_Taken ti_Taken s_NoClass_Taken,s_NoClass_NoClass,zez,s_NoClass_NoPlace,zbd n_NoClass_NoPlace ci_NoPlace ti_NoPlace s_NoClass_NoPlace,s_NoClass_NoShare,zbd n_NoClass_NoShare ci_NoShare ti_NoShare s_NoClass_NoShare,s_NoClass_NoLength,zbd n_NoClass_NoLength ci_NoLength ti_NoLength s_NoClass_NoLength,zim v_NoClass_VE,s_NoPlace_WheelError,zbd n_NoPlace_WheelError ci_WheelError ti_WheelError s_NoPlace_WheelError,s_NoPlace_NoName,zbd n_NoPlace_NoName ci_NoName ti_NoName s_NoPlace_NoName,s_NoPlace_Taken,zbd n_NoPlace_Taken ci_Taken ti_Taken s_NoPlace_Taken,s_NoPlace_NoClass,zbd n_NoPlace_NoClass ci_NoClass ti_NoClass s_NoPlace_NoClass,s_NoPlace_NoPlace,zez,s_NoPlace_NoShare,zbd n_NoPlace_NoShare ci_NoShare ti_NoShare s_NoPlace_NoShare,s_NoPlace_NoLength,zbd n_NoPlace_NoLength ci_NoLength ti_NoLength s_NoPlace_NoLength,zim v_NoPlace_VE,s_NoShare_WheelError,zbd n_NoShare_WheelError ci_WheelError ti_WheelError s_NoShare_WheelError,s_NoShare_NoName,zbd n_NoShare_NoName ci_NoName ti_NoName s_NoShare_NoName,s_NoShare_Taken,zbd n_NoShare_Taken ci_Taken ti_Taken s_NoShare_Taken,s_NoShare_NoClass,zbd n_NoShare_NoClass ci_NoClass ti_NoClass s_NoShare_NoClass,s_NoShare_NoPlace,zbd n_NoShare_NoPlace ci_NoPlace ti_NoPlace s_NoShare_NoPlace,s_NoShare_NoShare,zez,s_NoShare_NoLength,zbd n_NoShare_NoLength ci_NoLength ti_NoLength s_NoShare_NoLength,zim v_NoShare_VE,s_NoLength_WheelError,zbd n_NoLength_WheelError ci_WheelError ti_WheelError s_NoLength_WheelError,s_NoLength_NoName,zbd n_NoLength_NoName ci_NoName ti_NoName s_NoLength_NoName,s_NoLength_Taken,zbd n_NoLength_Taken ci_Taken ti_Taken s_NoLength_Taken,s_NoLength_NoClass,zbd n_NoLength_NoClass ci_NoClass ti_NoClass s_NoLength_NoClass,s_NoLength_NoPlace,zbd n_NoLength_NoPlace ci_NoPlace ti_NoPlace s_NoLength_NoPlace,s_NoLength_NoShare,zbd n_NoLength_NoShare ci_NoShare ti_NoShare s_NoLength_NoShare,s_NoLength_NoLength,zez,zim v_NoLength_VE,ic_Starts,io_Starts,zbd n_Starts_Chooser ci_Chooser ti_Chooser s_Starts_Chooser,ic_Rounds,io_Rounds,zbd n_Rounds_Chooser ci_Chooser ti_Chooser s_Rounds_Chooser,kg,kt,PySem.W.mg_none_of X G z1,PySem.W.mg_none_of X G z2,PySem.W.mg_none_of X G z3,PySem.W.mg_none_of X G z4,PySem.W.mg_none_of X G z5,PySem.W.mg_none_of X G z6,PySem.W.mg_none_of X G z7,⟨_,PySem.W.mg_of X G v_GREATEST_SHARE⟩,⟨_,PySem.W.mg_of X G v_GREATEST_LENGTH⟩,⟨_,PySem.W.mg_of X G v_LETTERS⟩,⟨_,PySem.W.mg_of X G v_LONGEST_NAME⟩,⟨_,PySem.W.mg_of X G v_ROAD⟩,⟨_,PySem.W.mg_of X G v_INNER_KINDS,fun H=>.inr ⟨_,_,_,w_INNER_KINDS,rfl,rfl,(by show 2<=sizeLine; decide),.cons ⟨_,rfl⟩ (.cons ⟨_,rfl⟩ (.nil))⟩⟩,⟨_,PySem.W.mg_of X G v_LONGEST_WAY⟩,⟨_,PySem.W.mg_of X G v_LEAF⟩,⟨_,_,F1,F1.binds (ps:=["one", "other"]) (fun _ _ _ _ _ _=>L2.el2 (fun _ _=>rfl)),PySem.W.mg_of X G a1⟩,⟨_,_,F2,F2.binds (ps:=["top", "bottom"]) (fun _ _ _ _ _ _=>L2.el2 (fun _ _=>rfl)),PySem.W.mg_of X G a2⟩,⟨_,_,F3,F3.binds (ps:=["one", "other"]) (fun _ _ _ _ _ _=>L2.el2 (fun _ _=>rfl)),PySem.W.mg_of X G a3⟩,⟨_,_,F4,F4.binds (ps:=["one", "other"]) (fun _ _ _ _ _ _=>L2.el2 (fun _ _=>rfl)),PySem.W.mg_of X G a4⟩,⟨_,_,F5,F5.binds (ps:=["share"]) (fun _ _ _ _ _ _=>L2.el1 (fun _=>rfl)),PySem.W.mg_of X G a5⟩,⟨_,_,F6,F6.binds (ps:=["most"]) (fun _ _ _ _ _ _=>L2.el1 (fun _=>rfl)),PySem.W.mg_of X G a6⟩,⟨_,_,F7,F7.binds (ps:=["text"]) (fun _ _ _ _ _ _=>L2.el1 (fun _=>rfl)),PySem.W.mg_of X G a7⟩,⟨_,_,F8,F8.binds (ps:=["kind", "most"]) (fun _ _ _ _ _ _=>L2.el2 (fun _ _=>rfl)),PySem.W.mg_of X G a8⟩,⟨_,_,F9,F9.binds (ps:=["_law_script", "_law_k"]) (fun _ _ _ _ _ _=>L2.el2 (fun _ _=>rfl)),PySem.W.mg_of X G a9⟩,⟨_,_,F10,F10.binds (ps:=["_law_cell", "_law_many"]) (fun _ _ _ _ _ _=>L2.el2 (fun _ _=>rfl)),PySem.W.mg_of X G a10⟩,⟨_,_,F11,F11.binds (ps:=["_law_xs", "_law_size"]) (fun _ _ _ _ _ _=>L2.el2 (fun _ _=>rfl)),PySem.W.mg_of X G a11⟩,⟨_,_,F12,F12.binds (ps:=["_law_xs", "_law_known"]) (fun _ _ _ _ _ _=>L2.el2 (fun _ _=>rfl)),PySem.W.mg_of X G a12⟩,⟨_,_,F13,F13.binds (ps:=["_law_world", "_law_name_here"]) (fun _ _ _ _ _ _=>L2.el2 (fun _ _=>rfl)),PySem.W.mg_of X G a13⟩,⟨_,_,F14,F14.binds (ps:=["_law_world", "_law_name_here", "_law_above", "_law_kind", "_law_share", "_law_room"]) (fun _ _ _ _ _ _=>L2.el6 (fun _ _ _ _ _ _=>rfl)),PySem.W.mg_of X G a14⟩,⟨_,_,F15,F15.binds (ps:=["_law_e", "_law_many"]) (fun _ _ _ _ _ _=>L2.el2 (fun _ _=>rfl)),PySem.W.mg_of X G a15⟩,⟨_,_,F16,F16.binds (ps:=["_law_tree", "_law_name_here", "_law_above", "_law_kind", "_law_share", "_law_room"]) (fun _ _ _ _ _ _=>L2.el6 (fun _ _ _ _ _ _=>rfl)),PySem.W.mg_of X G a16⟩,⟨_,_,F17,F17.binds (ps:=["_law_tree", "_law_name_here", "_law_above", "_law_kind", "_law_share", "_law_room"]) (fun _ _ _ _ _ _=>L2.el6 (fun _ _ _ _ _ _=>rfl)),PySem.W.mg_of X G a17⟩,⟨_,_,F18,F18.binds (ps:=["_law_world", "_law_above"]) (fun _ _ _ _ _ _=>L2.el2 (fun _ _=>rfl)),PySem.W.mg_of X G a18⟩,⟨_,_,F19,F19.binds (ps:=["_law_tree", "_law_name_here"]) (fun _ _ _ _ _ _=>L2.el2 (fun _ _=>rfl)),PySem.W.mg_of X G a19⟩,⟨_,_,F20,F20.binds (ps:=["_law_tree", "_law_world"]) (fun _ _ _ _ _ _=>L2.el2 (fun _ _=>rfl)),PySem.W.mg_of X G a20⟩,PySem.W.mg_of X G b_Members,⟨pg_Members,hd_Members,po_Members,sa_Members⟩,na_Members_shares,⟨⟨_,_,F_Members_init,⟨mk_Members,a_Members_init,i_Members_init_fn,kc_Members⟩,(fun dvs h=>by simp only [List.mem_cons,List.not_mem_nil,or_false] at h; subst h; exact BindsV.nil B_Members_init)⟩⟩,⟨⟨_,_,F_Members_check_name,⟨a_Members_check_name,i_Members_check_name_fn,k_Members_check_name⟩,(fun dvs h=>by simp only [List.mem_cons,List.not_mem_nil,or_false] at h; subst h; exact BindsV.nil B_Members_check_name)⟩⟩,⟨⟨_,_,F_Members_put,⟨a_Members_put,i_Members_put_fn,k_Members_put⟩,(fun dvs h=>by simp only [List.mem_cons,List.not_mem_nil,or_false] at h; subst h; exact BindsV.nil B_Members_put)⟩⟩,⟨⟨_,_,F_Members_names,⟨a_Members_names,i_Members_names_fn,k_Members_names⟩,(fun dvs h=>by simp only [List.mem_cons,List.not_mem_nil,or_false] at h; subst h; exact BindsV.nil B_Members_names)⟩⟩,PySem.W.mg_of X G b_Chooser,PySem.W.mg_of X G b_Starts,⟨pg_Starts,hd_Starts,po_Starts,sa_Starts⟩,na_Starts_reached,na_Starts_tags,na_Starts_greatest_steps,na_Starts_most,na_Starts_members,na_Starts_chosen,⟨⟨_,_,F_Starts_init,⟨mk_Starts,a_Starts_init,i_Starts_init_fn,kc_Starts⟩,(fun dvs h=>by simp only [List.mem_cons,List.not_mem_nil,or_false] at h; subst h; exact BindsV.nil B_Starts_init)⟩⟩,⟨⟨_,_,F_Starts_enter,⟨a_Starts_enter,i_Starts_enter_fn,k_Starts_enter⟩,(fun dvs h=>by simp only [List.mem_cons,List.not_mem_nil,or_false] at h; subst h; exact BindsV.nil B_Starts_enter)⟩⟩,⟨⟨_,_,F_Starts_stands,⟨a_Starts_stands,i_Starts_stands_fn,k_Starts_stands⟩,(fun dvs h=>by simp only [List.mem_cons,List.not_mem_nil,or_false] at h; subst h; exact BindsV.nil B_Starts_stands)⟩⟩,⟨⟨_,_,F_Starts_up_Chooser,⟨⟨_,r_Starts_up_Chooser,q_Starts_up_Chooser⟩,g_Starts_up_Chooser,k_Starts_up_Chooser⟩,BindsV.nil B_Starts_up_Chooser⟩⟩,⟨⟨_,_,F_Starts_put,⟨a_Starts_put,i_Starts_put_fn,k_Starts_put⟩,(fun dvs h=>by simp only [List.mem_cons,List.not_mem_nil,or_false] at h; subst h; exact BindsV.nil B_Starts_put)⟩⟩,⟨⟨_,_,F_Starts_names,⟨a_Starts_names,i_Starts_names_fn,k_Starts_names⟩,(fun dvs h=>by simp only [List.mem_cons,List.not_mem_nil,or_false] at h; subst h; exact BindsV.nil B_Starts_names)⟩⟩,PySem.W.mg_of X G b_Rounds,⟨pg_Rounds,hd_Rounds,po_Rounds,sa_Rounds⟩,na_Rounds_queue,na_Rounds_rests,na_Rounds_turn,na_Rounds_most,na_Rounds_members,na_Rounds_chosen,⟨⟨_,_,F_Rounds_init,⟨mk_Rounds,a_Rounds_init,i_Rounds_init_fn,kc_Rounds⟩,(fun dvs h=>by simp only [List.mem_cons,List.not_mem_nil,or_false] at h; subst h; exact BindsV.nil B_Rounds_init)⟩⟩,⟨⟨_,_,F_Rounds_enter,⟨a_Rounds_enter,i_Rounds_enter_fn,k_Rounds_enter⟩,(fun dvs h=>by simp only [List.mem_cons,List.not_mem_nil,or_false] at h; subst h; exact BindsV.nil B_Rounds_enter)⟩⟩,⟨⟨_,_,F_Rounds_rest,⟨a_Rounds_rest,i_Rounds_rest_fn,k_Rounds_rest⟩,(fun dvs h=>by simp only [List.mem_cons,List.not_mem_nil,or_false] at h; subst h; exact BindsV.nil B_Rounds_rest)⟩⟩,⟨⟨_,_,F_Rounds_up_Chooser,⟨⟨_,r_Rounds_up_Chooser,q_Rounds_up_Chooser⟩,g_Rounds_up_Chooser,k_Rounds_up_Chooser⟩,BindsV.nil B_Rounds_up_Chooser⟩⟩,⟨⟨_,_,F_Rounds_put,⟨a_Rounds_put,i_Rounds_put_fn,k_Rounds_put⟩,(fun dvs h=>by simp only [List.mem_cons,List.not_mem_nil,or_false] at h; subst h; exact BindsV.nil B_Rounds_put)⟩⟩,⟨⟨_,_,F_Rounds_names,⟨a_Rounds_names,i_Rounds_names_fn,k_Rounds_names⟩,(fun dvs h=>by simp only [List.mem_cons,List.not_mem_nil,or_false] at h; subst h; exact BindsV.nil B_Rounds_names)⟩⟩,PySem.W.mg_of X G b_Node,⟨pg_Node,hd_Node,po_Node,sa_Node⟩,na_Node_above,na_Node_chooser,na_Node_room,na_Node_bucket,na_Node_queue,⟨⟨_,_,F_Node_init,⟨mk_Node,a_Node_init,i_Node_init_fn,kc_Node⟩,(fun dvs h=>by simp only [List.mem_cons,List.not_mem_nil,or_false] at h; rcases h with rfl | rfl <;> first | exact ⟨_,.nil,B0_Node_init⟩ | exact ⟨_,(.cons rfl .nil),B1_Node_init⟩)⟩⟩,PySem.W.mg_of X G b_Tree,⟨pg_Tree,hd_Tree,po_Tree,sa_Tree⟩,na_Tree_most,na_Tree_nodes,na_Tree_time,na_Tree_free,na_Tree_counted,na_Tree_gone,⟨⟨_,_,F_Tree_init,⟨mk_Tree,a_Tree_init,i_Tree_init_fn,kc_Tree⟩,(fun dvs h=>by simp only [List.mem_cons,List.not_mem_nil,or_false] at h; rcases h with rfl | rfl <;> first | exact ⟨_,.nil,B0_Tree_init⟩ | exact ⟨_,(.cons ⟨_,rfl⟩ .nil),B1_Tree_init⟩)⟩⟩,⟨⟨_,_,F_Tree_check_class,⟨a_Tree_check_class,i_Tree_check_class_fn,k_Tree_check_class⟩,(fun dvs h=>by simp only [List.mem_cons,List.not_mem_nil,or_false] at h; subst h; exact BindsV.nil B_Tree_check_class)⟩⟩,⟨⟨_,_,F_Tree_check_place,⟨a_Tree_check_place,i_Tree_check_place_fn,k_Tree_check_place⟩,(fun dvs h=>by simp only [List.mem_cons,List.not_mem_nil,or_false] at h; subst h; exact BindsV.nil B_Tree_check_place)⟩⟩,⟨⟨_,_,F_Tree_put,⟨a_Tree_put,i_Tree_put_fn,k_Tree_put⟩,(fun dvs h=>by simp only [List.mem_cons,List.not_mem_nil,or_false] at h; rcases h with rfl | rfl <;> first | exact ⟨_,.nil,B0_Tree_put⟩ | exact ⟨_,(.cons rfl .nil),B1_Tree_put⟩)⟩⟩,⟨⟨_,_,F_Tree_way,⟨a_Tree_way,i_Tree_way_fn,k_Tree_way⟩,(fun dvs h=>by simp only [List.mem_cons,List.not_mem_nil,or_false] at h; subst h; exact BindsV.nil B_Tree_way)⟩⟩,⟨⟨_,_,F_Tree_below,⟨a_Tree_below,i_Tree_below_fn,k_Tree_below⟩,(fun dvs h=>by simp only [List.mem_cons,List.not_mem_nil,or_false] at h; subst h; exact BindsV.nil B_Tree_below)⟩⟩,⟨⟨_,_,F_Tree_from_road,⟨a_Tree_from_road,i_Tree_from_road_fn,k_Tree_from_road⟩,(fun dvs h=>by simp only [List.mem_cons,List.not_mem_nil,or_false] at h; subst h; exact BindsV.nil B_Tree_from_road)⟩⟩⟩
  exact ⟨PySem.W.fnOf "law" "law" (zao s_law) (zam s_law) (zac s_law) .none kV21 dc21 pm21 an21 cd21 ct21,fun s v=>.of_eq rfl,fun base _ _=>zun (zax (st:=s_law) l21 c21 k21) T⟩
theorem walk {l:PySem.W.OpenLaw} {q:Program} {loose:List Str} {XP:(Str->Option Value)->Heap->Prop} {YP:World->Heap->Prop} {d:DefRec} {K:Params->PySem.W.Frag} (hn:l.most=some 63) (hdf:d.params.defaults = [])
    (hY:∀ (w:World) (h:Heap),YP w h->(K w.params).In h)
    (F:∀ (w:World) (mg:Str->Option Value) (fa:Addr) (h:Heap),(K w.params).In h->h.Ns mainGlobals mg->mg d.name=some (.ref fa) ->
      ∃ fd:FuncData,(∀ (s:Shared) (u:Value),BindsTo s fd ⟨[u],[]⟩ [("_law_script", u)])/\∀ base:Heap,(K w.params).In base->base.Ns mainGlobals mg->FnOk l.prog w (K w.params) mg base CX0 9 fa fd ["_law_script"] (spLaw (K w.params))) :
    PySem.W.WalkO q loose XP YP l.row.toRowW d [] (fun f vs=>PySem.call f vs) :=
  L2.walk_of (n:=63) (k:=9) (x := "_law_script") (CX:=fun _=>CX0) (sp:=fun w=>spLaw (K w.params)) hn (by decide) hdf ⟨rfl,by decide,by decide⟩ hY F (fun _ _ a ns hl _ hS=>⟨a,ns,rfl,hS,hl,fun _=>rfl⟩) fun _ _ _ _ _ z=>z
end K61
theorem PySem.W.Fast.te10663299261033334565 : True := trivial
theorem PySem.W.Fast.tw2919268126811679652 : True := trivial
theorem PySem.W.Fast.tw14058500217849767359 : True := trivial
theorem PySem.W.Fast.tw9632138832485057148 : True := trivial
theorem PySem.W.Fast.tw15893829657809840533 : True := trivial
theorem PySem.W.Fast.tw13346598978692933200 : True := trivial
theorem PySem.W.Fast.tw13503533021904990868 : True := trivial
theorem PySem.W.Fast.tw10290619632413373673 : True := trivial
theorem PySem.W.Fast.tw17186041377637624180 : True := trivial
theorem PySem.W.Fast.tw16848824645145313435 : True := trivial
theorem PySem.W.Fast.tw3031076879797724880 : True := trivial
theorem PySem.W.Fast.tw469532837405481450 : True := trivial
theorem PySem.W.Fast.tw1959351080812879641 : True := trivial
theorem PySem.W.Fast.tw851643414847725882 : True := trivial
theorem PySem.W.Fast.tw3247837161951376912 : True := trivial
theorem PySem.W.Fast.tw5272816411311630857 : True := trivial
theorem PySem.W.Fast.tw16956752222424604923 : True := trivial
theorem PySem.W.Fast.tw2130476770165778713 : True := trivial
theorem PySem.W.Fast.tw11413383943569973541 : True := trivial
theorem PySem.W.Fast.tw17491701388569788237 : True := trivial
theorem PySem.W.Fast.tw17390886517312074135 : True := trivial
theorem PySem.W.Fast.tw13087369193101913727 : True := trivial
theorem PySem.W.Fast.tw5876451583663729632 : True := trivial
theorem PySem.W.Fast.tw4070656936648384395 : True := trivial
theorem PySem.W.Fast.tw4047731200313555938 : True := trivial
theorem PySem.W.Fast.tw2486951345904490238 : True := trivial
theorem PySem.W.Fast.tw8594767167539562421 : True := trivial
theorem PySem.W.Fast.tw6589075619327240662 : True := trivial
theorem PySem.W.Fast.tw14807767071646925528 : True := trivial
theorem PySem.W.Fast.tw3560744728165980984 : True := trivial
theorem PySem.W.Fast.tw7476506179462151431 : True := trivial
theorem PySem.W.Fast.tw8623212556862188408 : True := trivial
theorem PySem.W.Fast.tw8440636853328519496 : True := trivial
theorem PySem.W.Fast.tw28851794425523479 : True := trivial
theorem PySem.W.Fast.tw4407426485120670795 : True := trivial
open PySem PySem.W PyProof.Rows
set_option maxRecDepth 100000 in
set_option maxHeartbeats 0 in
theorem PySem.Challenge.cw_sharewheel_k61_who_is_put_in_holds : PySem.Challenge.rw_sharewheel_k61_who_is_put_in.Holds := by
  w_on; o_law; k_head; (case hw=>w_witness2)
  k_fill
  refine K61.walk (l:=PySem.Challenge.rw_sharewheel_k61_who_is_put_in) rfl rfl (fun w h Y=>PySem.W.kIn_of Y) ?F
  case F =>
    intro w mg fa h KX G hmg
    refine' K61.all_mk KX G hmg ?b_WheelError ?hd_WheelError ?ga_WheelError ?gn_WheelError ?sa_WheelError ?cl_WheelError ?be_WheelError ?ob_WheelError ?kp_WheelError ?ci_WheelError ?ti_WheelError ?ex_WheelError ?b_NoName ?hd_NoName ?ga_NoName ?gn_NoName ?sa_NoName ?cl_NoName ?be_NoName ?ob_NoName ?kp_NoName ?ci_NoName ?ti_NoName ?ex_NoName ?b_Taken ?hd_Taken ?ga_Taken ?gn_Taken ?sa_Taken ?cl_Taken ?be_Taken ?ob_Taken ?kp_Taken ?ci_Taken ?ti_Taken ?ex_Taken ?b_NoClass ?hd_NoClass ?ga_NoClass ?gn_NoClass ?sa_NoClass ?cl_NoClass ?be_NoClass ?ob_NoClass ?kp_NoClass ?ci_NoClass ?ti_NoClass ?ex_NoClass ?b_NoPlace ?hd_NoPlace ?ga_NoPlace ?gn_NoPlace ?sa_NoPlace ?cl_NoPlace ?be_NoPlace ?ob_NoPlace ?kp_NoPlace ?ci_NoPlace ?ti_NoPlace ?ex_NoPlace ?b_NoShare ?hd_NoShare ?ga_NoShare ?gn_NoShare ?sa_NoShare ?cl_NoShare ?be_NoShare ?ob_NoShare ?kp_NoShare ?ci_NoShare ?ti_NoShare ?ex_NoShare ?b_NoLength ?hd_NoLength ?ga_NoLength ?gn_NoLength ?sa_NoLength ?cl_NoLength ?be_NoLength ?ob_NoLength ?kp_NoLength ?ci_NoLength ?ti_NoLength ?ex_NoLength ?kg ?kt ?s_NoName_WheelError ?n_NoName_WheelError ?s_NoName_NoName ?s_NoName_Taken ?n_NoName_Taken ?s_NoName_NoClass ?n_NoName_NoClass ?s_NoName_NoPlace ?n_NoName_NoPlace ?s_NoName_NoShare ?n_NoName_NoShare ?s_NoName_NoLength ?n_NoName_NoLength ?v_NoName_VE ?s_Taken_WheelError ?n_Taken_WheelError ?s_Taken_NoName ?n_Taken_NoName ?s_Taken_Taken ?s_Taken_NoClass ?n_Taken_NoClass ?s_Taken_NoPlace ?n_Taken_NoPlace ?s_Taken_NoShare ?n_Taken_NoShare ?s_Taken_NoLength ?n_Taken_NoLength ?v_Taken_VE ?s_NoClass_WheelError ?n_NoClass_WheelError ?s_NoClass_NoName ?n_NoClass_NoName ?s_NoClass_Taken ?n_NoClass_Taken ?s_NoClass_NoClass ?s_NoClass_NoPlace ?n_NoClass_NoPlace ?s_NoClass_NoShare ?n_NoClass_NoShare ?s_NoClass_NoLength ?n_NoClass_NoLength ?v_NoClass_VE ?s_NoPlace_WheelError ?n_NoPlace_WheelError ?s_NoPlace_NoName ?n_NoPlace_NoName ?s_NoPlace_Taken ?n_NoPlace_Taken ?s_NoPlace_NoClass ?n_NoPlace_NoClass ?s_NoPlace_NoPlace ?s_NoPlace_NoShare ?n_NoPlace_NoShare ?s_NoPlace_NoLength ?n_NoPlace_NoLength ?v_NoPlace_VE ?s_NoShare_WheelError ?n_NoShare_WheelError ?s_NoShare_NoName ?n_NoShare_NoName ?s_NoShare_Taken ?n_NoShare_Taken ?s_NoShare_NoClass ?n_NoShare_NoClass ?s_NoShare_NoPlace ?n_NoShare_NoPlace ?s_NoShare_NoShare ?s_NoShare_NoLength ?n_NoShare_NoLength ?v_NoShare_VE ?s_NoLength_WheelError ?n_NoLength_WheelError ?s_NoLength_NoName ?n_NoLength_NoName ?s_NoLength_Taken ?n_NoLength_Taken ?s_NoLength_NoClass ?n_NoLength_NoClass ?s_NoLength_NoPlace ?n_NoLength_NoPlace ?s_NoLength_NoShare ?n_NoLength_NoShare ?s_NoLength_NoLength ?v_NoLength_VE ?a1 ?l1 ?c1 ?k1 ?a2 ?l2 ?c2 ?k2 ?a3 ?l3 ?c3 ?k3 ?a4 ?l4 ?c4 ?k4 ?a5 ?l5 ?c5 ?k5 ?a6 ?l6 ?c6 ?k6 ?a7 ?l7 ?c7 ?k7 ?a8 ?l8 ?c8 ?k8 ?a9 ?l9 ?c9 ?k9 ?a10 ?l10 ?c10 ?k10 ?a11 ?l11 ?c11 ?k11 ?a12 ?l12 ?c12 ?k12 ?a13 ?l13 ?c13 ?k13 ?a14 ?l14 ?c14 ?k14 ?a15 ?l15 ?c15 ?k15 ?a16 ?l16 ?c16 ?k16 ?a17 ?l17 ?c17 ?k17 ?a18 ?l18 ?c18 ?k18 ?a19 ?l19 ?c19 ?k19 ?a20 ?l20 ?c20 ?k20 ?a21 ?l21 ?c21 ?k21 ?z1 ?z2 ?z3 ?z4 ?z5 ?z6 ?z7 ?v_GREATEST_SHARE ?v_GREATEST_LENGTH ?v_LETTERS ?v_LONGEST_NAME ?v_ROAD ?v_INNER_KINDS ?w_INNER_KINDS ?v_LONGEST_WAY ?v_LEAF ?b_Members ?pg_Members ?hd_Members ?po_Members ?sa_Members ?mk_Members ?kc_Members ?na_Members_shares ?a_Members_init ?i_Members_init_fn ?l_Members_init ?c_Members_init_cd ?k_Members_init ?a_Members_check_name ?i_Members_check_name_fn ?l_Members_check_name ?c_Members_check_name_cd ?k_Members_check_name ?a_Members_put ?i_Members_put_fn ?l_Members_put ?c_Members_put_cd ?k_Members_put ?a_Members_names ?i_Members_names_fn ?l_Members_names ?c_Members_names_cd ?k_Members_names ?b_Chooser ?b_Starts ?pg_Starts ?hd_Starts ?po_Starts ?sa_Starts ?mk_Starts ?kc_Starts ?na_Starts_reached ?na_Starts_tags ?na_Starts_greatest_steps ?na_Starts_most ?na_Starts_members ?na_Starts_chosen ?a_Starts_init ?i_Starts_init_fn ?l_Starts_init ?c_Starts_init_cd ?k_Starts_init ?a_Starts_enter ?i_Starts_enter_fn ?l_Starts_enter ?c_Starts_enter_cd ?k_Starts_enter ?a_Starts_stands ?i_Starts_stands_fn ?l_Starts_stands ?c_Starts_stands_cd ?k_Starts_stands ?a_Starts_up_Chooser ?i_Starts_up_Chooser_fn ?l_Starts_up_Chooser ?c_Starts_up_Chooser_cd ?r_Starts_up_Chooser ?q_Starts_up_Chooser ?g_Starts_up_Chooser ?k_Starts_up_Chooser ?a_Starts_put ?i_Starts_put_fn ?l_Starts_put ?c_Starts_put_cd ?k_Starts_put ?a_Starts_names ?i_Starts_names_fn ?l_Starts_names ?c_Starts_names_cd ?k_Starts_names ?b_Rounds ?pg_Rounds ?hd_Rounds ?po_Rounds ?sa_Rounds ?mk_Rounds ?kc_Rounds ?na_Rounds_queue ?na_Rounds_rests ?na_Rounds_turn ?na_Rounds_most ?na_Rounds_members ?na_Rounds_chosen ?a_Rounds_init ?i_Rounds_init_fn ?l_Rounds_init ?c_Rounds_init_cd ?k_Rounds_init ?a_Rounds_enter ?i_Rounds_enter_fn ?l_Rounds_enter ?c_Rounds_enter_cd ?k_Rounds_enter ?a_Rounds_rest ?i_Rounds_rest_fn ?l_Rounds_rest ?c_Rounds_rest_cd ?k_Rounds_rest ?a_Rounds_up_Chooser ?i_Rounds_up_Chooser_fn ?l_Rounds_up_Chooser ?c_Rounds_up_Chooser_cd ?r_Rounds_up_Chooser ?q_Rounds_up_Chooser ?g_Rounds_up_Chooser ?k_Rounds_up_Chooser ?a_Rounds_put ?i_Rounds_put_fn ?l_Rounds_put ?c_Rounds_put_cd ?k_Rounds_put ?a_Rounds_names ?i_Rounds_names_fn ?l_Rounds_names ?c_Rounds_names_cd ?k_Rounds_names ?b_Node ?pg_Node ?hd_Node ?po_Node ?sa_Node ?mk_Node ?kc_Node ?na_Node_above ?na_Node_chooser ?na_Node_room ?na_Node_bucket ?na_Node_queue ?a_Node_init ?i_Node_init_fn ?l_Node_init ?c_Node_init_cd ?k_Node_init ?dk_Node_init ?b_Tree ?pg_Tree ?hd_Tree ?po_Tree ?sa_Tree ?mk_Tree ?kc_Tree ?na_Tree_most ?na_Tree_nodes ?na_Tree_time ?na_Tree_free ?na_Tree_counted ?na_Tree_gone ?a_Tree_init ?i_Tree_init_fn ?l_Tree_init ?c_Tree_init_cd ?k_Tree_init ?dk_Tree_init ?a_Tree_check_class ?i_Tree_check_class_fn ?l_Tree_check_class ?c_Tree_check_class_cd ?k_Tree_check_class ?a_Tree_check_place ?i_Tree_check_place_fn ?l_Tree_check_place ?c_Tree_check_place_cd ?k_Tree_check_place ?a_Tree_put ?i_Tree_put_fn ?l_Tree_put ?c_Tree_put_cd ?k_Tree_put ?dk_Tree_put ?a_Tree_way ?i_Tree_way_fn ?l_Tree_way ?c_Tree_way_cd ?k_Tree_way ?a_Tree_below ?i_Tree_below_fn ?l_Tree_below ?c_Tree_below_cd ?k_Tree_below ?a_Tree_from_road ?i_Tree_from_road_fn ?l_Tree_from_road ?c_Tree_from_road_cd ?k_Tree_from_road ?ci_Chooser ?ti_Chooser ?ic_Starts ?io_Starts ?s_Starts_Chooser ?n_Starts_Chooser ?ic_Rounds ?io_Rounds ?s_Rounds_Chooser ?n_Rounds_Chooser
    (case b_WheelError=>k_is)
    (case hd_WheelError=>k_is)
    (case ga_WheelError=>k_is)
    (case gn_WheelError=>k_is)
    (case sa_WheelError=>k_is)
    (case cl_WheelError=>k_is)
    (case be_WheelError=>k_is)
    (case ob_WheelError=>k_is)
    (case kp_WheelError=>k_is)
    (case ci_WheelError=>k_is)
    (case ti_WheelError=>k_is)
    (case ex_WheelError=>k_exc)
    (case b_NoName=>k_is)
    (case hd_NoName=>k_is)
    (case ga_NoName=>k_is)
    (case gn_NoName=>k_is)
    (case sa_NoName=>k_is)
    (case cl_NoName=>k_is)
    (case be_NoName=>k_is)
    (case ob_NoName=>k_is)
    (case kp_NoName=>k_is)
    (case ci_NoName=>k_is)
    (case ti_NoName=>k_is)
    (case ex_NoName=>k_exc)
    (case b_Taken=>k_is)
    (case hd_Taken=>k_is)
    (case ga_Taken=>k_is)
    (case gn_Taken=>k_is)
    (case sa_Taken=>k_is)
    (case cl_Taken=>k_is)
    (case be_Taken=>k_is)
    (case ob_Taken=>k_is)
    (case kp_Taken=>k_is)
    (case ci_Taken=>k_is)
    (case ti_Taken=>k_is)
    (case ex_Taken=>k_exc)
    (case b_NoClass=>k_is)
    (case hd_NoClass=>k_is)
    (case ga_NoClass=>k_is)
    (case gn_NoClass=>k_is)
    (case sa_NoClass=>k_is)
    (case cl_NoClass=>k_is)
    (case be_NoClass=>k_is)
    (case ob_NoClass=>k_is)
    (case kp_NoClass=>k_is)
    (case ci_NoClass=>k_is)
    (case ti_NoClass=>k_is)
    (case ex_NoClass=>k_exc)
    (case b_NoPlace=>k_is)
    (case hd_NoPlace=>k_is)
    (case ga_NoPlace=>k_is)
    (case gn_NoPlace=>k_is)
    (case sa_NoPlace=>k_is)
    (case cl_NoPlace=>k_is)
    (case be_NoPlace=>k_is)
    (case ob_NoPlace=>k_is)
    (case kp_NoPlace=>k_is)
    (case ci_NoPlace=>k_is)
    (case ti_NoPlace=>k_is)
    (case ex_NoPlace=>k_exc)
    (case b_NoShare=>k_is)
    (case hd_NoShare=>k_is)
    (case ga_NoShare=>k_is)
    (case gn_NoShare=>k_is)
    (case sa_NoShare=>k_is)
    (case cl_NoShare=>k_is)
    (case be_NoShare=>k_is)
    (case ob_NoShare=>k_is)
    (case kp_NoShare=>k_is)
    (case ci_NoShare=>k_is)
    (case ti_NoShare=>k_is)
    (case ex_NoShare=>k_exc)
    (case b_NoLength=>k_is)
    (case hd_NoLength=>k_is)
    (case ga_NoLength=>k_is)
    (case gn_NoLength=>k_is)
    (case sa_NoLength=>k_is)
    (case cl_NoLength=>k_is)
    (case be_NoLength=>k_is)
    (case ob_NoLength=>k_is)
    (case kp_NoLength=>k_is)
    (case ci_NoLength=>k_is)
    (case ti_NoLength=>k_is)
    (case ex_NoLength=>k_exc)
    (case kg=>k_is)
    (case kt=>k_is)
    (case s_NoName_WheelError=>k_is)
    (case n_NoName_WheelError=>rfl)
    (case s_NoName_NoName=>k_is)
    (case s_NoName_Taken=>k_is)
    (case n_NoName_Taken=>rfl)
    (case s_NoName_NoClass=>k_is)
    (case n_NoName_NoClass=>rfl)
    (case s_NoName_NoPlace=>k_is)
    (case n_NoName_NoPlace=>rfl)
    (case s_NoName_NoShare=>k_is)
    (case n_NoName_NoShare=>rfl)
    (case s_NoName_NoLength=>k_is)
    (case n_NoName_NoLength=>rfl)
    (case v_NoName_VE=>k_is)
    (case s_Taken_WheelError=>k_is)
    (case n_Taken_WheelError=>rfl)
    (case s_Taken_NoName=>k_is)
    (case n_Taken_NoName=>rfl)
    (case s_Taken_Taken=>k_is)
    (case s_Taken_NoClass=>k_is)
    (case n_Taken_NoClass=>rfl)
    (case s_Taken_NoPlace=>k_is)
    (case n_Taken_NoPlace=>rfl)
    (case s_Taken_NoShare=>k_is)
    (case n_Taken_NoShare=>rfl)
    (case s_Taken_NoLength=>k_is)
    (case n_Taken_NoLength=>rfl)
    (case v_Taken_VE=>k_is)
    (case s_NoClass_WheelError=>k_is)
    (case n_NoClass_WheelError=>rfl)
    (case s_NoClass_NoName=>k_is)
    (case n_NoClass_NoName=>rfl)
    (case s_NoClass_Taken=>k_is)
    (case n_NoClass_Taken=>rfl)
    (case s_NoClass_NoClass=>k_is)
    (case s_NoClass_NoPlace=>k_is)
    (case n_NoClass_NoPlace=>rfl)
    (case s_NoClass_NoShare=>k_is)
    (case n_NoClass_NoShare=>rfl)
    (case s_NoClass_NoLength=>k_is)
    (case n_NoClass_NoLength=>rfl)
    (case v_NoClass_VE=>k_is)
    (case s_NoPlace_WheelError=>k_is)
    (case n_NoPlace_WheelError=>rfl)
    (case s_NoPlace_NoName=>k_is)
    (case n_NoPlace_NoName=>rfl)
    (case s_NoPlace_Taken=>k_is)
    (case n_NoPlace_Taken=>rfl)
    (case s_NoPlace_NoClass=>k_is)
    (case n_NoPlace_NoClass=>rfl)
    (case s_NoPlace_NoPlace=>k_is)
    (case s_NoPlace_NoShare=>k_is)
    (case n_NoPlace_NoShare=>rfl)
    (case s_NoPlace_NoLength=>k_is)
    (case n_NoPlace_NoLength=>rfl)
    (case v_NoPlace_VE=>k_is)
    (case s_NoShare_WheelError=>k_is)
    (case n_NoShare_WheelError=>rfl)
    (case s_NoShare_NoName=>k_is)
    (case n_NoShare_NoName=>rfl)
    (case s_NoShare_Taken=>k_is)
    (case n_NoShare_Taken=>rfl)
    (case s_NoShare_NoClass=>k_is)
    (case n_NoShare_NoClass=>rfl)
    (case s_NoShare_NoPlace=>k_is)
    (case n_NoShare_NoPlace=>rfl)
    (case s_NoShare_NoShare=>k_is)
    (case s_NoShare_NoLength=>k_is)
    (case n_NoShare_NoLength=>rfl)
    (case v_NoShare_VE=>k_is)
    (case s_NoLength_WheelError=>k_is)
    (case n_NoLength_WheelError=>rfl)
    (case s_NoLength_NoName=>k_is)
    (case n_NoLength_NoName=>rfl)
    (case s_NoLength_Taken=>k_is)
    (case n_NoLength_Taken=>rfl)
    (case s_NoLength_NoClass=>k_is)
    (case n_NoLength_NoClass=>rfl)
    (case s_NoLength_NoPlace=>k_is)
    (case n_NoLength_NoPlace=>rfl)
    (case s_NoLength_NoShare=>k_is)
    (case n_NoLength_NoShare=>rfl)
    (case s_NoLength_NoLength=>k_is)
    (case v_NoLength_VE=>k_is)
    (case a1=>k_is)
    (case l1=>k_is)
    (case c1=>k_is)
    (case k1=>k_is)
    (case a2=>k_is)
    (case l2=>k_is)
    (case c2=>k_is)
    (case k2=>k_is)
    (case a3=>k_is)
    (case l3=>k_is)
    (case c3=>k_is)
    (case k3=>k_is)
    (case a4=>k_is)
    (case l4=>k_is)
    (case c4=>k_is)
    (case k4=>k_is)
    (case a5=>k_is)
    (case l5=>k_is)
    (case c5=>k_is)
    (case k5=>k_is)
    (case a6=>k_is)
    (case l6=>k_is)
    (case c6=>k_is)
    (case k6=>k_is)
    (case a7=>k_is)
    (case l7=>k_is)
    (case c7=>k_is)
    (case k7=>k_is)
    (case a8=>k_is)
    (case l8=>k_is)
    (case c8=>k_is)
    (case k8=>k_is)
    (case a9=>k_is)
    (case l9=>k_is)
    (case c9=>k_is)
    (case k9=>k_is)
    (case a10=>k_is)
    (case l10=>k_is)
    (case c10=>k_is)
    (case k10=>k_is)
    (case a11=>k_is)
    (case l11=>k_is)
    (case c11=>k_is)
    (case k11=>k_is)
    (case a12=>k_is)
    (case l12=>k_is)
    (case c12=>k_is)
    (case k12=>k_is)
    (case a13=>k_is)
    (case l13=>k_is)
    (case c13=>k_is)
    (case k13=>k_is)
    (case a14=>k_is)
    (case l14=>k_is)
    (case c14=>k_is)
    (case k14=>k_is)
    (case a15=>k_is)
    (case l15=>k_is)
    (case c15=>k_is)
    (case k15=>k_is)
    (case a16=>k_is)
    (case l16=>k_is)
    (case c16=>k_is)
    (case k16=>k_is)
    (case a17=>k_is)
    (case l17=>k_is)
    (case c17=>k_is)
    (case k17=>k_is)
    (case a18=>k_is)
    (case l18=>k_is)
    (case c18=>k_is)
    (case k18=>k_is)
    (case a19=>k_is)
    (case l19=>k_is)
    (case c19=>k_is)
    (case k19=>k_is)
    (case a20=>k_is)
    (case l20=>k_is)
    (case c20=>k_is)
    (case k20=>k_is)
    (case a21=>k_is)
    (case l21=>k_is)
    (case c21=>k_is)
    (case k21=>k_is)
    (case z1=>k_is)
    (case z2=>k_is)
    (case z3=>k_is)
    (case z4=>k_is)
    (case z5=>k_is)
    (case z6=>k_is)
    (case z7=>k_is)
    (case v_GREATEST_SHARE=>k_is)
    (case v_GREATEST_LENGTH=>k_is)
    (case v_LETTERS=>k_is)
    (case v_LONGEST_NAME=>k_is)
    (case v_ROAD=>k_is)
    (case v_INNER_KINDS=>k_is)
    (case w_INNER_KINDS=>k_is)
    (case v_LONGEST_WAY=>k_is)
    (case v_LEAF=>k_is)
    (case b_Members=>k_is)
    (case pg_Members=>k_is)
    (case hd_Members=>k_is)
    (case po_Members=>k_is)
    (case sa_Members=>k_is)
    (case mk_Members=>k_is)
    (case kc_Members=>k_is)
    (case na_Members_shares=>k_is)
    (case a_Members_init=>k_is)
    (case i_Members_init_fn=>k_is)
    (case l_Members_init=>k_is)
    (case c_Members_init_cd=>k_is)
    (case k_Members_init=>k_is)
    (case a_Members_check_name=>k_is)
    (case i_Members_check_name_fn=>k_is)
    (case l_Members_check_name=>k_is)
    (case c_Members_check_name_cd=>k_is)
    (case k_Members_check_name=>k_is)
    (case a_Members_put=>k_is)
    (case i_Members_put_fn=>k_is)
    (case l_Members_put=>k_is)
    (case c_Members_put_cd=>k_is)
    (case k_Members_put=>k_is)
    (case a_Members_names=>k_is)
    (case i_Members_names_fn=>k_is)
    (case l_Members_names=>k_is)
    (case c_Members_names_cd=>k_is)
    (case k_Members_names=>k_is)
    (case b_Chooser=>k_is)
    (case b_Starts=>k_is)
    (case pg_Starts=>k_is)
    (case hd_Starts=>k_is)
    (case po_Starts=>k_is)
    (case sa_Starts=>k_is)
    (case mk_Starts=>k_is)
    (case kc_Starts=>k_is)
    (case na_Starts_reached=>k_is)
    (case na_Starts_tags=>k_is)
    (case na_Starts_greatest_steps=>k_is)
    (case na_Starts_most=>k_is)
    (case na_Starts_members=>k_is)
    (case na_Starts_chosen=>k_is)
    (case a_Starts_init=>k_is)
    (case i_Starts_init_fn=>k_is)
    (case l_Starts_init=>k_is)
    (case c_Starts_init_cd=>k_is)
    (case k_Starts_init=>k_is)
    (case a_Starts_enter=>k_is)
    (case i_Starts_enter_fn=>k_is)
    (case l_Starts_enter=>k_is)
    (case c_Starts_enter_cd=>k_is)
    (case k_Starts_enter=>k_is)
    (case a_Starts_stands=>k_is)
    (case i_Starts_stands_fn=>k_is)
    (case l_Starts_stands=>k_is)
    (case c_Starts_stands_cd=>k_is)
    (case k_Starts_stands=>k_is)
    (case a_Starts_up_Chooser=>k_is)
    (case i_Starts_up_Chooser_fn=>k_is)
    (case l_Starts_up_Chooser=>k_is)
    (case c_Starts_up_Chooser_cd=>k_is)
    (case r_Starts_up_Chooser=>k_is)
    (case q_Starts_up_Chooser=>k_is)
    (case g_Starts_up_Chooser=>k_is)
    (case k_Starts_up_Chooser=>k_is)
    (case a_Starts_put=>k_is)
    (case i_Starts_put_fn=>k_is)
    (case l_Starts_put=>k_is)
    (case c_Starts_put_cd=>k_is)
    (case k_Starts_put=>k_is)
    (case a_Starts_names=>k_is)
    (case i_Starts_names_fn=>k_is)
    (case l_Starts_names=>k_is)
    (case c_Starts_names_cd=>k_is)
    (case k_Starts_names=>k_is)
    (case b_Rounds=>k_is)
    (case pg_Rounds=>k_is)
    (case hd_Rounds=>k_is)
    (case po_Rounds=>k_is)
    (case sa_Rounds=>k_is)
    (case mk_Rounds=>k_is)
    (case kc_Rounds=>k_is)
    (case na_Rounds_queue=>k_is)
    (case na_Rounds_rests=>k_is)
    (case na_Rounds_turn=>k_is)
    (case na_Rounds_most=>k_is)
    (case na_Rounds_members=>k_is)
    (case na_Rounds_chosen=>k_is)
    (case a_Rounds_init=>k_is)
    (case i_Rounds_init_fn=>k_is)
    (case l_Rounds_init=>k_is)
    (case c_Rounds_init_cd=>k_is)
    (case k_Rounds_init=>k_is)
    (case a_Rounds_enter=>k_is)
    (case i_Rounds_enter_fn=>k_is)
    (case l_Rounds_enter=>k_is)
    (case c_Rounds_enter_cd=>k_is)
    (case k_Rounds_enter=>k_is)
    (case a_Rounds_rest=>k_is)
    (case i_Rounds_rest_fn=>k_is)
    (case l_Rounds_rest=>k_is)
    (case c_Rounds_rest_cd=>k_is)
    (case k_Rounds_rest=>k_is)
    (case a_Rounds_up_Chooser=>k_is)
    (case i_Rounds_up_Chooser_fn=>k_is)
    (case l_Rounds_up_Chooser=>k_is)
    (case c_Rounds_up_Chooser_cd=>k_is)
    (case r_Rounds_up_Chooser=>k_is)
    (case q_Rounds_up_Chooser=>k_is)
    (case g_Rounds_up_Chooser=>k_is)
    (case k_Rounds_up_Chooser=>k_is)
    (case a_Rounds_put=>k_is)
    (case i_Rounds_put_fn=>k_is)
    (case l_Rounds_put=>k_is)
    (case c_Rounds_put_cd=>k_is)
    (case k_Rounds_put=>k_is)
    (case a_Rounds_names=>k_is)
    (case i_Rounds_names_fn=>k_is)
    (case l_Rounds_names=>k_is)
    (case c_Rounds_names_cd=>k_is)
    (case k_Rounds_names=>k_is)
    (case b_Node=>k_is)
    (case pg_Node=>k_is)
    (case hd_Node=>k_is)
    (case po_Node=>k_is)
    (case sa_Node=>k_is)
    (case mk_Node=>k_is)
    (case kc_Node=>k_is)
    (case na_Node_above=>k_is)
    (case na_Node_chooser=>k_is)
    (case na_Node_room=>k_is)
    (case na_Node_bucket=>k_is)
    (case na_Node_queue=>k_is)
    (case a_Node_init=>k_is)
    (case i_Node_init_fn=>k_is)
    (case l_Node_init=>k_is)
    (case c_Node_init_cd=>k_is)
    (case k_Node_init=>k_is)
    (case dk_Node_init=>k_is)
    (case b_Tree=>k_is)
    (case pg_Tree=>k_is)
    (case hd_Tree=>k_is)
    (case po_Tree=>k_is)
    (case sa_Tree=>k_is)
    (case mk_Tree=>k_is)
    (case kc_Tree=>k_is)
    (case na_Tree_most=>k_is)
    (case na_Tree_nodes=>k_is)
    (case na_Tree_time=>k_is)
    (case na_Tree_free=>k_is)
    (case na_Tree_counted=>k_is)
    (case na_Tree_gone=>k_is)
    (case a_Tree_init=>k_is)
    (case i_Tree_init_fn=>k_is)
    (case l_Tree_init=>k_is)
    (case c_Tree_init_cd=>k_is)
    (case k_Tree_init=>k_is)
    (case dk_Tree_init=>k_is)
    (case a_Tree_check_class=>k_is)
    (case i_Tree_check_class_fn=>k_is)
    (case l_Tree_check_class=>k_is)
    (case c_Tree_check_class_cd=>k_is)
    (case k_Tree_check_class=>k_is)
    (case a_Tree_check_place=>k_is)
    (case i_Tree_check_place_fn=>k_is)
    (case l_Tree_check_place=>k_is)
    (case c_Tree_check_place_cd=>k_is)
    (case k_Tree_check_place=>k_is)
    (case a_Tree_put=>k_is)
    (case i_Tree_put_fn=>k_is)
    (case l_Tree_put=>k_is)
    (case c_Tree_put_cd=>k_is)
    (case k_Tree_put=>k_is)
    (case dk_Tree_put=>k_is)
    (case a_Tree_way=>k_is)
    (case i_Tree_way_fn=>k_is)
    (case l_Tree_way=>k_is)
    (case c_Tree_way_cd=>k_is)
    (case k_Tree_way=>k_is)
    (case a_Tree_below=>k_is)
    (case i_Tree_below_fn=>k_is)
    (case l_Tree_below=>k_is)
    (case c_Tree_below_cd=>k_is)
    (case k_Tree_below=>k_is)
    (case a_Tree_from_road=>k_is)
    (case i_Tree_from_road_fn=>k_is)
    (case l_Tree_from_road=>k_is)
    (case c_Tree_from_road_cd=>k_is)
    (case k_Tree_from_road=>k_is)
    (case ci_Chooser=>k_is)
    (case ti_Chooser=>k_is)
    (case ic_Starts=>k_is)
    (case io_Starts=>k_is)
    (case s_Starts_Chooser=>k_is)
    (case n_Starts_Chooser=>rfl)
    (case ic_Rounds=>k_is)
    (case io_Rounds=>k_is)
    (case s_Rounds_Chooser=>k_is)
    (case n_Rounds_Chooser=>rfl)
