import PyProof.Rows.All
import Wide.All
import OpenK.AllK
import Wide.FinOn
import Lean
import PyProof.EqAt
import PyProof.EqKinds
import PyProof.TupleCall
import PySem.Challenge.RW_sharewheel_k62_what_came_and_waits
set_option Elab.async false
set_option linter.all false
set_option maxRecDepth 100000
namespace L2
open PySem PySem.Spec PyProof.Rows
abbrev Key:=Sum Int Str
def keyIs:Key->Value->Bool
 | .inl k,v=>Value.isInt k v
 | .inr x,v=>Value.isStrOf x v
def keyH (w:World):Key->Int
 | .inl k=>hashInt k
 | .inr x=>hashStr w x
theorem zcd:∀ {k:Key} {v:Value},keyIs k v=true->(∃ i t,k=Sum.inl i/\v=Value.int i t)\/(∃ x t,k=Sum.inr x/\v=Value.str x t)
 | .inl i,v,h=>by
  obtain ⟨t,e⟩:=Value.isInt_shape (k:=i) (v:=v) h
  exact .inl ⟨i,t,rfl,e⟩
 | .inr x,v,h=>by
  obtain ⟨t,e⟩:=Value.isStrOf_shape (x:=x) (v:=v) h
  exact .inr ⟨x,t,rfl,e⟩
theorem zqn (i:Int) (t:Tok):keyIs (.inl i) (.int i t)=true:=by simp [keyIs,Value.isInt]
theorem zqo (x:Str) (t:Tok):keyIs (.inr x) (.str x t)=true:=by simp [keyIs,Value.isStrOf]
theorem zwz (a b:Int):decide ((Sum.inl a:Key)=Sum.inl b)=(a == b):=by
 by_cases e:a=b
 ·subst e; simp
 ·have h:¬ (Sum.inl a:Key)=Sum.inl b:=fun q=>e (Sum.inl.inj q)
  rw [decide_eq_false h]
  exact (beq_eq_false_iff_ne.mpr e).symm
theorem zxa (a b:Str):decide ((Sum.inr a:Key)=Sum.inr b)=decide (a=b):=by
 by_cases e:a=b
 ·subst e; simp
 ·have h:¬ (Sum.inr a:Key)=Sum.inr b:=fun q=>e (Sum.inr.inj q)
  rw [decide_eq_false h,decide_eq_false e]
theorem zxb (a:Int) (b:Str):decide ((Sum.inl a:Key)=Sum.inr b)=false:=decide_eq_false (fun q=>nomatch q)
theorem zxc (a:Str) (b:Int):decide ((Sum.inr a:Key)=Sum.inl b)=false:=decide_eq_false (fun q=>nomatch q)
def zax (prog:Program) (w:World):PySem.KeyKind prog w Key where
 is:=keyIs
 hash:=keyH w
 inj:=fun v a b ha hb=>by
  rcases zcd ha with ⟨i,t,rfl,rfl⟩ | ⟨x,t,rfl,rfl⟩
  ·rcases zcd hb with ⟨j,u,rfl,e⟩ | ⟨y,u,rfl,e⟩
   ·injection e with e1 _; rw [e1]
   ·exact nomatch e
  ·rcases zcd hb with ⟨j,u,rfl,e⟩ | ⟨y,u,rfl,e⟩
   ·exact nomatch e
   ·injection e with e1 _; rw [e1]
 byValue:=fun k v h=>by
  rcases zcd h with ⟨i,t,rfl,rfl⟩ | ⟨x,t,rfl,rfl⟩ <;> rfl
 pyHash:=fun hv h=>by
  rcases zcd hv with ⟨i,t,rfl,rfl⟩ | ⟨x,t,rfl,rfl⟩
  ·exact wpAny_pyHash_int h
  ·exact wpAny_pyHash_str h
 eqBool:=fun hu hv h=>by
  rcases zcd hu with ⟨i,t,rfl,rfl⟩ | ⟨x,t,rfl,rfl⟩
  ·rcases zcd hv with ⟨j,u,rfl,rfl⟩ | ⟨y,u,rfl,rfl⟩
   ·rw [zwz] at h; exact wpAny_eqBool_int h
   ·rw [zxb] at h; exact SeqAt.EqAt.int_str i t y u _ _ _ _ h
  ·rcases zcd hv with ⟨j,u,rfl,rfl⟩ | ⟨y,u,rfl,rfl⟩
   ·rw [zxc] at h; exact SeqAt.EqAt.str_int x t j u _ _ _ _ h
   ·rw [zxa] at h; exact wpAny_eqBool_str h
 «strs»:=fun k x t v h=>by
  rcases zcd h with ⟨i,u,rfl,e⟩ | ⟨y,u,rfl,e⟩
  ·exact nomatch e
  ·injection e with e1 _
   subst e1
   cases v <;> rfl
theorem znm (prog:Program) (w:World) (i:Int) (t:Tok):(zax prog w).is (.inl i) (.int i t)=true:=zqn i t
theorem znn (prog:Program) (w:World) (x:Str) (t:Tok):(zax prog w).is (.inr x) (.str x t)=true:=zqo x t
end L2
namespace L2
open PySem PySem.Spec PyProof.Rows
inductive V where
 | non | bl (b:Bool) | int (i:Int) | str (x:Str) | byt (b:Array UInt8) | flt (b:UInt64) | ref (a:Addr) | ty (n:String)
 deriving DecidableEq
def RelV:V->Value->Prop
 | .non,u=>u=Value.none
 | .bl b,u=>u=Value.bool b
 | .int i,u=>∃ t,u=Value.int i t
 | .str x,u=>∃ t,u=Value.str x t
 | .byt b,u=>∃ t,u=Value.bytes b t
 | .flt b,u=>∃ t,u=Value.float b t
 | .ref a,u=>u=Value.ref a
 | .ty n,u=>u=Value.type n
abbrev Vals:List V->List Value->Prop:=Paired RelV
theorem Vals.length {xs:List V} {us:List Value} (r:Vals xs us):xs.length=us.length:=Paired.length r
theorem Vals.get:∀ {xs:List V} {us:List Value} {i:Nat} {x:V},Vals xs us->xs[i]? = some x->∃ u,us[i]? = some u/\RelV x u
 | _,_,_,_,.nil,e=>by simp at e
 | _,_,0,_,.cons r _,e=>by simp at e; subst e; exact ⟨_,rfl,r⟩
 | _,_,i+1,x,.cons _ t,e=>by
  obtain ⟨u,h1,h2⟩:=Vals.get (i:=i) (x:=x) t (by simpa using e)
  exact ⟨u,by simpa using h1,h2⟩
theorem Vals.append:∀ {xs ys:List V} {us ws:List Value},Vals xs us->Vals ys ws->Vals (xs++ys) (us++ws)
 | _,_,_,_,.nil,s=>s
 | _,_,_,_,.cons r t,s=>.cons r (Vals.append t s)
theorem Vals.take:∀ {xs:List V} {us:List Value} (n:Nat),Vals xs us->Vals (xs.take n) (us.take n)
 | _,_,0,_=>.nil
 | _,_,_ + 1,.nil=>.nil
 | _,_,n+1,.cons r t=>.cons r (Vals.take n t)
theorem Vals.drop:∀ {xs:List V} {us:List Value} (n:Nat),Vals xs us->Vals (xs.drop n) (us.drop n)
 | _,_,0,r=>r
 | _,_,_ + 1,.nil=>.nil
 | _,_,n+1,.cons _ t=>Vals.drop n t
def RelO:Option V->Option Value->Prop
 | some v,some u=>RelV v u
 | none,none=>True
 | _,_=>False
def KV {κ:Type}:List (κ×V)->List (κ×Value)->Prop:=Paired fun (p:κ×V) (q:κ×Value)=>p.1=q.1/\RelV p.2 q.2
def kV:Key->V
 | .inl i=>.int i
 | .inr x=>.str x
inductive HO where
 | lst (xs:List V)
 | tup (xs:List V)
 | dK (kvs:List (Key×V)) | dT (kvs:List (List Key×V))
 | set (S:Int->Bool) (n:Nat)
 | ins (C dx:Addr) (fs:List (Str×V))
 | own (x:Addr)
 | xd (fs:List (Str×V))
 | met (f x:Addr)
 | rng (lo hi:Int)
 | frz (o:Obj) (u:HO)
 | tbl (ps:Array Value)
 | ext (φ:Heap->Prop)
abbrev Hp:=Addr->Option HO
def upd (H:Hp) (a:Addr) (o:HO):Hp:=fun b=>if b=a then some o else H b
theorem zab {H:Hp} {a:Addr} {o:HO}:upd H a o a=some o:=by unfold upd; rw [if_pos rfl]
theorem zah {H:Hp} {a b:Addr} {o:HO} (h:b≠a):upd H a o b=H b:=by unfold upd; rw [if_neg h]
theorem zfd {H:Hp} {a:Addr} {o u:HO}:upd (upd H a o) a u=upd H a u:=by
 funext b; unfold upd; split <;> rfl
theorem ne_of {H:Hp} {a b:Addr} {o u:HO} (h:H a=some o) (h':H b=some u) (d:o≠u):a≠b:=by
 intro e; subst e; rw [h] at h'; exact d (Option.some.inj h')
theorem zao {H:Hp} {a b:Addr} {o:HO} (h:H a=some o) (h':H b=none):a≠b:=by
 intro e; subst e; rw [h] at h'; cases h'
section
variable (P:Program) (w:World)
def ObjOk (H:Hp) (h:Heap) (a:Addr):HO->Prop
  | .lst xs=>xs.length<=sizeLine/\∃ (its:List Value) (n:Nat),Vals xs its/\h.get? a=some { cls:=.type "list", data:=.seq its.toArray n }
  | .tup xs=>xs.length<=sizeLine/\∃ its:List Value,Vals xs its/\IsTup h a its.toArray
  | .dK kvs=>kvs.length<=sizeLine/\(a == sysModules)=false/\∃ vs,KV kvs vs/\h.DictOf (zax P w) a vs
  | .dT kvs=>kvs.length<=sizeLine/\(a == sysModules)=false/\∃ xs:List (List Key×Addr×Value),
      Paired (fun (p:List Key×V) (q:List Key×Addr×Value)=>p.1=q.1/\H q.2.1=some (.tup (p.1.map kV))/\RelV p.2 q.2.2) kvs xs /\
      ∃ o es ep,h.get? a=some o/\o.ExactDict/\o.data = .dict es ep/\es.toList=xs.map (entryOfKey (tupleKind (zax P w)))/\(xs.map (·.1)).Nodup
  | .set S n=>h.SetOf (intKind P w) a S n
  | .ins C dx fs=>H dx=some (.own a)/\fs.length<=1000/\dx≠a/\h.get? a=some (PySem.W.instObj C dx) /\
      ∃ mA,h.Ns1 dx mA/\(∀ f,RelO (fs.lookup f) (mA f))/\PySem.Within mA (fs.map (·.1))
  | .own _=>∃ o,h.get? a=some o
  | .xd fs=>∃ mA,h.Ns1 a mA/\∀ f,RelO (fs.lookup f) (mA f)
  | .rng lo hi=>∃ t u v,h.get? a=some { cls:=.type "range", data:=.fields #[.int lo t,.int hi u,.int 1 v] }
  | .frz o u=>h.get? a=some o/\ObjOk H h a u
  | .tbl ps=>h.get? a=some { cls:=.none,data:=.fields ps }
  | .met f x=>h.get? a=some (PySem.W.methodObj (.ref f) (.ref x))
  | .ext φ=>φ h/\(∃ o,h.get? a=some o)/\∀ h1 h2:Heap,φ h1->(∀ o,h1.get? a=some o->h2.get? a=some o)->φ h2
def HOk (H:Hp) (h:Heap):Prop:=∀ a o,H a=some o->ObjOk P w H h a o
end
section
variable {P:Program} {w:World} {H H':Hp} {h h':Heap} {a:Addr} {o:HO}
theorem ObjOk.lt (x:ObjOk P w H h a o):a<h.objs.size:=by
 cases o with
 | lst xs=>obtain ⟨_,_,_,_,e⟩:=x; exact Heap.lt_size e
 | tup xs=>obtain ⟨_,_,_,p⟩:=x; exact p.lt
 | dK kvs=>obtain ⟨_,_,_,_,o,_,_,e,_⟩:=x; exact Heap.lt_size e
 | dT kvs=>obtain ⟨_,_,_,_,o,_,_,e,_⟩:=x; exact Heap.lt_size e
 | set S n=>obtain ⟨o,_,_,_,e,_⟩:=x; exact Heap.lt_size e
 | ins C dx fs=>obtain ⟨_,_,_,e,_⟩:=x; exact Heap.lt_size e
 | own y=>obtain ⟨_,e⟩:=x; exact Heap.lt_size e
 | xd fs=>obtain ⟨_,⟨_,_,_,e,_⟩,_⟩:=x; exact Heap.lt_size e
 | rng lo hi=>obtain ⟨_,_,_,e⟩:=x; exact Heap.lt_size e
 | frz ob u=>obtain ⟨e,_⟩:=x; exact Heap.lt_size e
 | tbl ps=>exact Heap.lt_size (show h.get? a=some _ from x)
 | met f y=>exact Heap.lt_size (show h.get? a=some _ from x)
 | ext φ=>obtain ⟨_,⟨_,e⟩,_⟩:=x; exact Heap.lt_size e
theorem Paired.mapP {α β:Type} {F G:α->β->Prop}:∀ {l₁:List α} {l₂:List β},Paired F l₁ l₂->(∀ a b,F a b->G a b)->Paired G l₁ l₂
 | _,_,.nil,_=>.nil
 | _,_,.cons r t,f=>.cons (f _ _ r) (Paired.mapP t f)
theorem ObjOk.stay (x:ObjOk P w H h a o) (k:∀ b u,(b=a\/H b=some (.own a))->h.get? b=some u->h'.get? b=some u)
    (ho:∀ b,H b=some (.own a)->H' b=some (.own a)) (ht:∀ b xs,H b=some (.tup xs)->H' b=some (.tup xs)):ObjOk P w H' h' a o:=by
  induction o with
  | lst xs=>obtain ⟨z,its,n,r,e⟩:=x; exact ⟨z,its,n,r,k _ _ (.inl rfl) e⟩
  | tup xs=>obtain ⟨z,its,r,ob,e,c⟩:=x; exact ⟨z,its,r,ob,k _ _ (.inl rfl) e,c⟩
  | dK kvs=>obtain ⟨z,y,vs,r,ob,es,ep,e,c⟩:=x; exact ⟨z,y,vs,r,ob,es,ep,k _ _ (.inl rfl) e,c⟩
  | dT kvs =>
    obtain ⟨z,y,xs,r,ob,es,ep,e,c⟩:=x
    exact ⟨z,y,xs,Paired.mapP r fun p q z=>⟨z.1,ht _ _ z.2.1,z.2.2⟩,ob,es,ep,k _ _ (.inl rfl) e,c⟩
  | set S n=>obtain ⟨ob,es,ep,t,e,c⟩:=x; exact ⟨ob,es,ep,t,k _ _ (.inl rfl) e,c⟩
  | ins C dx fs =>
    obtain ⟨d,z,ne,e,mA,⟨od,es,ep,e2,c⟩,r⟩:=x
    exact ⟨ho _ d,z,ne,k _ _ (.inl rfl) e,mA,⟨od,es,ep,k _ _ (.inr d) e2,c⟩,r⟩
  | own y=>obtain ⟨ob,e⟩:=x; exact ⟨ob,k _ _ (.inl rfl) e⟩
  | xd fs=>obtain ⟨mA,⟨od,es,ep,e,c⟩,r⟩:=x; exact ⟨mA,⟨od,es,ep,k _ _ (.inl rfl) e,c⟩,r⟩
  | rng lo hi=>obtain ⟨t,u,v,e⟩:=x; exact ⟨t,u,v,k _ _ (.inl rfl) e⟩
  | frz ob u ih=>obtain ⟨e,q⟩:=x; exact ⟨k _ _ (.inl rfl) e,ih q⟩
  | tbl ps =>
    have e:h.get? a=some { cls:=.none,data:=.fields ps }:=x
    show h'.get? a=some { cls:=.none,data:=.fields ps }
    exact k a _ (.inl rfl) e
  | met f y =>
    have e:h.get? a=some (PySem.W.methodObj (.ref f) (.ref y)):=x
    show h'.get? a=some (PySem.W.methodObj (.ref f) (.ref y))
    exact k a _ (.inl rfl) e
  | ext φ=>obtain ⟨p,⟨o,e⟩,st⟩:=x; exact ⟨st _ _ p fun o q=>k _ _ (.inl rfl) q,⟨o,k _ _ (.inl rfl) e⟩,st⟩
theorem HOk.lt (x:HOk P w H h) (e:H a=some o):a<h.objs.size:=(x a o e).lt
theorem HOk.fresh (x:HOk P w H h) (e:h.objs.size<=a):H a=none:=by
 cases q:H a with
 | none=>rfl
 | some u=>exact absurd (Nat.lt_of_lt_of_le (x.lt q) e) (Nat.lt_irrefl _)
theorem HOk.kept (x:HOk P w H h) (k:∀ b u,h.get? b=some u->h'.get? b=some u):HOk P w H h':=fun a o e =>
 (x a o e).stay (fun b u _ q=>k b u q) (fun _ q=>q) fun _ _ q=>q
theorem HOk.laid (x:HOk P w H h) (k:∀ b u,h.get? b=some u->h'.get? b=some u) (hp:h.objs.size<=a) (new:ObjOk P w (upd H a o) h' a o):HOk P w (upd H a o) h':=fun b u e=>by
 have hn:=x.fresh hp
 by_cases hb:b=a
 ·subst hb; rw [zab] at e; cases e; exact new
 ·rw [zah hb] at e
  exact (x b u e).stay (fun c v _ q=>k c v q) (fun c q=>by rw [zah (zao q hn)]; exact q) fun c xs q=>by rw [zah (zao q hn)]; exact q
end
def Rd (H:Hp) (a:Addr) (u:HO):Prop:=H a=some u\/∃ o,H a=some (.frz o u)
theorem Rd.ok {P:Program} {w:World} {H:Hp} {h:Heap} {a:Addr} {u:HO} (r:Rd H a u) (x:HOk P w H h):ObjOk P w H h a u:=by
 rcases r with r | ⟨o,r⟩
 ·exact x a u r
 ·obtain ⟨_,q⟩:=x a _ r
  exact q
def Mut:Option HO->Prop
 | some (.lst _)=>True
 | some (.dK _)=>True
 | some (.dT _)=>True
 | some (.set _ _)=>True
 | some (.ins _ _ _)=>True
 | some (.ext _)=>True
 | _=>False
section
variable {P:Program} {w:World} {H:Hp} {h h':Heap} {x e:Addr} {o':HO}
theorem HOk.write (ok:HOk P w H h) (mu:Mut (H x)) (he:e=x\/H e=some (.own x)) (k:∀ b u,b≠e->h.get? b=some u->h'.get? b=some u) (heo:∃ u,h'.get? e=some u)
    (new:ObjOk P w (upd H x o') h' x o'):HOk P w (upd H x o') h':=fun b u q=>by
  have nown:∀ c y,H c=some (.own y)->c≠x:=fun c y r z=>by subst z; rw [r] at mu; exact mu
  have ntup:∀ c xs,H c=some (.tup xs)->c≠x:=fun c xs r z=>by subst z; rw [r] at mu; exact mu
  by_cases hb:b=x
  · subst hb; rw [zab] at q; cases q; exact new
  · rw [zah hb] at q
    by_cases hbe:b=e
    · have q':H b=some (.own x):=by
        rcases he with z | z
        · exact absurd (hbe.trans z) hb
        · rw [hbe]; exact z
      rw [q] at q'; cases q'
      obtain ⟨v,hv⟩:=heo
      exact ⟨v,by rw [hbe]; exact hv⟩
    · refine (ok b u q).stay (fun c v hc r=>k c v ?_ r) (fun c r=>by rw [zah (nown c b r)]; exact r) fun c xs r=>by rw [zah (ntup c xs r)]; exact r
      rcases hc with rfl | hc
      · exact hbe
      · rintro rfl
        rcases he with z | z
        · exact nown c b hc z
        · rw [hc] at z; cases z; exact hb rfl
end
structure Un (fs ex:List Addr) (H H':Hp) (h h':Heap):Prop where
 keep:∀ b o,h.get? b=some o->H b=none->b ∉ fs->b ∉ ex->h'.get? b=some o
 slot:∀ b o,h.get? b=some o->H b=none->b∈fs->b ∉ ex->∃ sl,h'.get? b=some { o with slots:=sl }
 free:∀ b o,h.get? b=some o->H b=none->b ∉ ex->H' b=none
 there:∀ b o,h.get? b=some o->b ∉ ex->∃ o',h'.get? b=some o'
 tups:∀ b xs,H b=some (.tup xs)->H' b=some (.tup xs)
 frzs:∀ b o u,H b=some (.frz o u)->H' b=some (.frz o u)
 tbls:∀ b ps,H b=some (.tbl ps)->∃ more,H' b=some (.tbl (ps++more))
section
variable {fs fs' ex ex':List Addr} {H H1 H2:Hp} {h h1 h2 h':Heap} {a x e:Addr} {o:HO}
theorem Un.any (u:Un fs ex H H1 h h1) {b:Addr} {ob:Obj} (q:h.get? b=some ob) (n:H b=none) (hx:b ∉ ex):∃ sl,h1.get? b=some { ob with slots:=sl }:=by
 by_cases hb:b∈fs
 ·exact u.slot b ob q n hb hx
 ·exact ⟨ob.slots,u.keep b ob q n hb hx⟩
theorem Un.kept (k:∀ b u,h.get? b=some u->h'.get? b=some u):Un fs ex H H h h' :=
 ⟨fun b ob q _ _ _=>k b ob q,fun b ob q _ _ _=>⟨ob.slots,k b ob q⟩,fun _ _ _ n _=>n,fun b ob q _=>⟨ob,k b ob q⟩,fun _ _ q=>q,fun _ _ _ q=>q,fun _ ps q=>⟨#[],by rw [q]; simp⟩⟩
theorem Un.refl:Un fs ex H H h h:=Un.kept fun _ _ q=>q
theorem Un.laid (k:∀ b u,h.get? b=some u->h'.get? b=some u) (hp:h.objs.size<=a) (hn:H a=none):Un fs ex H (upd H a o) h h' where
 keep:=fun b u q _ _ _=>k b u q
 slot:=fun b u q _ _ _=>⟨u.slots,k b u q⟩
 free:=fun b u q n _=>by rw [zah (Nat.ne_of_lt (Nat.lt_of_lt_of_le (Heap.lt_size q) hp))]; exact n
 there:=fun b u q _=>⟨u,k b u q⟩
 tups:=fun b xs q=>by rw [zah (zao q hn)]; exact q
 frzs:=fun b u xs q=>by rw [zah (zao q hn)]; exact q
 tbls:=fun b ps q=>⟨#[],by rw [zah (zao q hn),q]; simp⟩
theorem Un.write (mu:Mut (H x)) (he:e=x\/H e=some (.own x)) (k:∀ b u,b≠e->h.get? b=some u->h'.get? b=some u) (heo:∃ u,h'.get? e=some u):Un fs ex H (upd H x o) h h':=by
 have hx:∀ b,H b=none->b≠x:=fun b n z=>by subst z; rw [n] at mu; exact mu
 have hb:∀ b,H b=none->b≠e:=fun b n z=>by
  subst z
  rcases he with r | r
  ·exact hx b n r
  ·rw [n] at r; cases r
 have hm:∀ b u,H b=some u->¬ Mut (some u)->b≠x:=fun b u q nm z=>by subst z; rw [q] at mu; exact nm mu
 refine ⟨fun b u q n _ _=>k b u (hb b n) q,fun b u q n _ _=>⟨u.slots,k b u (hb b n) q⟩,fun b u q n _=>by rw [zah (hx b n)]; exact n,fun b u q _=>?_,
  fun b xs q=>by rw [zah (hm b _ q fun z=>z)]; exact q,fun b u xs q=>by rw [zah (hm b _ q fun z=>z)]; exact q,fun b ps q=>⟨#[],by rw [zah (hm b _ q fun z=>z),q]; simp⟩⟩
 by_cases hbe:b=e
 ·subst hbe; exact heo
 ·exact ⟨u,k b u hbe q⟩
end
def trk (h:Heap) (H:Hp):List Addr:=(List.range h.objs.size).filter fun a=>(H a).isSome
def hidT (h:Heap) (H:Hp):Heap:=PySem.W.hideAll h (trk h H)
theorem zqp (h:Heap) (H:Hp):(hidT h H).objs.size=h.objs.size:=PySem.W.hideAll_size _ _
theorem zsy {h:Heap} {H:Hp} {b:Addr} {o:Obj} (e:h.get? b=some o) (n:H b=none):(hidT h H).get? b=some o :=
 PySem.W.hideAll_get _ e fun hm=>by
  have q:(H b).isSome=true:=(List.mem_filter.mp hm).2
  rw [n] at q; simp at q
theorem zve {h:Heap} {H:Hp} {b:Addr} {o:Obj} (e:(hidT h H).get? b=some o):h.get? b=some o/\H b=none:=by
 have e':h.get? b=some o:=PySem.W.of_hideAll (trk h H) e
 refine ⟨e',?_⟩
 cases q:H b with
 | none=>rfl
 | some x =>
  have hm:b∈trk h H:=List.mem_filter.mpr ⟨List.mem_range.mpr (Heap.lt_size e'),by simp [q]⟩
  have z:(hidT h H).get? b=none:=PySem.W.hideAll_none (trk h H) hm
  rw [z] at e; cases e
def zvf (g h:Heap) (L:Addr):List (Addr×Obj):=(List.range h.objs.size).filterMap fun a=>if a=L\/(g.get? a).isSome=true then none else (h.get? a).map fun o=>(a,o)
def rest (g h:Heap) (L d:Addr):List (Addr×Obj):=(zvf g h L).filter fun p=>decide (p.1≠d)
end L2
namespace L2
open PySem PySem.Spec PyProof.Rows
structure Mod (K:PySem.W.Frag) (mg:Str->Option Value) (base:Heap):Prop where
 kin:K.In base
 glob:base.Ns mainGlobals mg
 blt:∃ mb,base.Ns builtinsNs mb/\∀ x:Str,x ≠ "__name__" -> mb x=bootBuiltins x
 nolimit:base.NoLimit
structure Cx where
 prog:Program
 w:World
 K:PySem.W.Frag
 mg:Str->Option Value
 base:Heap
 A:Around
 N:List Str
 s₀:Shared
 H₀:Hp
 env:Env
 outer:List Env
 stack:List Env
 ex:List Addr
 fn:Str->Bool
 calm:Bool
 pn:List (Addr×Obj)
 xe:Value->Shared->Prop
def frs (l:List Env):List Addr:=l.filterMap (·.frame)
abbrev Cx.fs (X:Cx):List Addr:=frs X.outer
def Vis (sc:Scope) (x:Str):Prop:=sc.names.lookup x=some .local\/sc.names.lookup x=some .cell\/sc.names.lookup x=some .free
def Loc (sc:Scope) (x:Str):Prop:=sc.names.lookup x=some .local\/sc.names.lookup x=some .cell
def Look (env:Env) (h:Heap) (m:Str->Option Value) (x:Str) (u:Value):Prop :=
 (env.kindOf x=some .local/\m x=some u)\/((env.kindOf x=some .cell\/env.kindOf x=some .free)/\∃ c,env.cells.lookup x=some c/\h.IsCell c (some u))
structure Cx.Ok (X:Cx):Prop where
 mod:Mod X.K X.mg X.base
 kind:X.env.scope.kind = .function
 glob:X.env.globals=mainGlobals
 blt:X.env.builtins=builtinsNs
 above:X.s₀.heap.objs.size<=X.env.locals
 inj:∀ x y c,X.env.cells.lookup x=some c->X.env.cells.lookup y=some c->x=y
 has:∀ x,(X.env.kindOf x=some .cell\/X.env.kindOf x=some .free)->∃ c,X.env.cells.lookup x=some c
 cab:∀ x c,X.fn x=true->X.env.cells.lookup x=some c->X.s₀.heap.objs.size<=c
 hd:X.calm=true->X.A.handled=none
 frames:X.A.frames=some X.stack
 stk:X.stack=X.outer\/(X.stack=X.env :: X.outer/\X.env.frame=some X.env.locals)
 exf:∀ b∈X.ex,b≠X.env.locals/\∀ x c,X.env.cells.lookup x=some c->c≠b
 bs:∀ b o,X.base.get? b=some o->X.s₀.heap.get? b=some o/\X.H₀ b=none
 bsz:X.base.objs.size<=X.s₀.heap.objs.size
 noex:∀ b o,X.base.get? b=some o->b ∉ X.ex
 exfs:∀ b∈X.ex,b ∉ X.fs
 funs:X.s₀.heap.FunFrames X.base X.outer
 frf:∀ b∈X.fs,X.H₀ b=none
structure Inv (X:Cx) (pins:List (Addr×Obj)) (σ:List (Option V)) (H:Hp) (s:Shared):Prop where
 ok:X.Ok
 os:s.os=X.s₀.os
 bare:AllBare s.gens
 base:Un X.fs X.ex X.H₀ H X.s₀.heap s.heap
 loc:∃ m,s.heap.Ns X.env.locals m/\∀ (i:Nat) (x:Str) (v:V),X.N[i]? = some x->σ[i]? = some (some v)->Vis X.env.scope x->∃ u,RelV v u/\Look X.env s.heap m x u
 cell:∀ x c,X.env.cells.lookup x=some c->∃ v,s.heap.IsCell c v
 free:H X.env.locals=none
 freeC:∀ x c,X.env.cells.lookup x=some c->H c=none
 pin:∀ p∈X.pn++pins,s.heap.get? p.1=some p.2/\H p.1=none/\p.1≠X.env.locals/\p.1 ∉ X.fs/\∀ v,p.2.data≠.cell v
 hok:HOk X.prog X.w H s.heap
 len:σ.length=X.N.length
section
variable {X:Cx} {pins:List (Addr×Obj)} {σ:List (Option V)} {H H':Hp} {s:Shared} {h':Heap}
theorem Cx.Ok.nofr (ok:X.Ok) {b:Addr} {o:Obj} (e:X.base.get? b=some o):b ∉ X.fs:=fun hb=>by
 have:=(ok.funs.mem hb).1
 rw [e] at this; cases this
theorem Inv.bs (I:Inv X pins σ H s):∀ b o,X.base.get? b=some o->s.heap.get? b=some o/\H b=none:=fun b o e =>
 ⟨I.base.keep b o (I.ok.bs b o e).1 (I.ok.bs b o e).2 (I.ok.nofr e) (I.ok.noex b o e),I.base.free b o (I.ok.bs b o e).1 (I.ok.bs b o e).2 (I.ok.noex b o e)⟩
theorem Inv.bk (I:Inv X pins σ H s):∀ b o,X.base.get? b=some o->s.heap.get? b=some o:=fun b o e=>(I.bs b o e).1
theorem Inv.mod (I:Inv X pins σ H s):Mod X.K X.mg X.base:=I.ok.mod
theorem Inv.kIn (I:Inv X pins σ H s):X.K.In s.heap:=I.ok.mod.kin.keeps I.bk
theorem Inv.lt (I:Inv X pins σ H s):X.env.locals<s.heap.objs.size:=let ⟨_,hn,_⟩:=I.loc; hn.lt
theorem Inv.sz (I:Inv X pins σ H s):X.s₀.heap.objs.size<=s.heap.objs.size:=Nat.le_trans I.ok.above (Nat.le_of_lt I.lt)
theorem Inv.nofs (I:Inv X pins σ H s) {a:Addr} (h:s.heap.objs.size<=a):a ∉ X.fs:=fun hb=>by
 obtain ⟨_,o,ho,_⟩:=I.ok.funs.mem hb
 exact absurd (Nat.lt_of_lt_of_le (Heap.lt_size ho) (Nat.le_trans I.sz h)) (Nat.lt_irrefl _)
theorem Inv.cne (I:Inv X pins σ H s):∀ x c,X.env.cells.lookup x=some c->c≠X.env.locals:=fun x c e z=>by
 obtain ⟨v,o,ho,hd⟩:=I.cell x c e
 obtain ⟨m,⟨o',es,ep,ho',hd',_⟩,_⟩:=I.loc
 rw [z,ho'] at ho; cases ho; rw [hd'] at hd; cases hd
theorem Inv.funs (I:Inv X pins σ H s):s.heap.FunFrames X.base X.outer:=by
 have all:∀ (l:List Env),(∀ b∈frs l,b∈X.fs)->X.s₀.heap.FunFrames X.base l->s.heap.FunFrames X.base l:=by
  intro l
  induction l with
  | nil=>intro _ _; trivial
  | cons env r ih =>
   intro hs hl
   obtain ⟨hk,⟨L,o,hf,hn,ho,hd⟩,hr⟩:=hl
   have hL:L∈X.fs:=hs L (by unfold frs; rw [List.filterMap_cons,hf]; exact List.mem_cons_self)
   obtain ⟨sl,e⟩:=I.base.slot L o ho (I.ok.frf L hL) hL fun z=>I.ok.exfs L z hL
   exact ⟨hk,⟨L,_,hf,hn,e,hd⟩,ih (fun b hb=>hs b (by unfold frs; rw [List.filterMap_cons,hf]; exact List.mem_cons_of_mem _ hb)) hr⟩
 exact all X.outer (fun _ hb=>hb) I.ok.funs
theorem Inv.stack (I:Inv X pins σ H s):s.heap.FunFrames X.base X.stack:=by
 rcases I.ok.stk with e | ⟨e,hf⟩
 ·rw [e]; exact I.funs
 ·rw [e]
  obtain ⟨m,hn,_⟩:=I.loc
  refine .cons (by rw [I.ok.kind]; decide) hf hn ?_ I.funs
  exact Heap.get?_none_of_le (Nat.le_trans I.ok.bsz I.ok.above)
theorem Inv.stkSub (I:Inv X pins σ H s):∀ b∈frs X.stack,b∈X.env.locals :: X.fs:=fun b hb=>by
 rcases I.ok.stk with e | ⟨e,hf⟩
 ·rw [e] at hb; exact List.mem_cons_of_mem _ hb
 ·rw [e] at hb
  unfold frs at hb
  rw [List.filterMap_cons,hf] at hb
  exact hb
theorem Inv.stkFree (I:Inv X pins σ H s):∀ b∈frs X.stack,H b=none:=fun b hb=>by
 rcases List.mem_cons.mp (I.stkSub b hb) with e | hb
 ·rw [e]; exact I.free
 ·obtain ⟨_,o,ho,_⟩:=I.ok.funs.mem hb
  exact I.base.free b o ho (I.ok.frf b hb) fun z=>I.ok.exfs b z hb
theorem Inv.step {g':Array GenState} {t':Nat} {d':Drawn} {ch:List Addr} (I:Inv X pins σ H s)
    (hch:∀ b∈ch,(b∈X.ex\/X.s₀.heap.objs.size<=b)/\b≠X.env.locals/\(∀ x c,X.env.cells.lookup x=some c->c≠b)/\∀ p∈X.pn++pins,p.1≠b)
    (keep:∀ b o,b≠X.env.locals->b ∉ X.fs->b ∉ ch->s.heap.get? b=some o->H b=none->h'.get? b=some o)
    (slot:∀ b o,b≠X.env.locals->b∈X.fs->b ∉ ch->s.heap.get? b=some o->H b=none->∃ sl,h'.get? b=some { o with slots:=sl }) (free:∀ b o,b ∉ ch->s.heap.get? b=some o->H b=none->H' b=none)
    (there:∀ b o,b ∉ ch->s.heap.get? b=some o->∃ o',h'.get? b=some o')
    (tups:∀ b xs,H b=some (.tup xs)->H' b=some (.tup xs)) (frzs:∀ b o u,H b=some (.frz o u)->H' b=some (.frz o u)) (tbls:∀ b ps,H b=some (.tbl ps)->∃ more,H' b=some (.tbl (ps++more)))
    (ns:∀ m,s.heap.Ns X.env.locals m->h'.Ns X.env.locals m) (hok:HOk X.prog X.w H' h') (hg:AllBare g') :
    Inv X pins σ H' { s with heap:=h',gens:=g',drawn:=d',toks:=t' }:=by
  have neL:∀ b o,X.s₀.heap.get? b=some o->b≠X.env.locals:=fun b o e=>Nat.ne_of_lt (Nat.lt_of_lt_of_le (Heap.lt_size e) I.ok.above)
  have neC:∀ b o,X.s₀.heap.get? b=some o->b ∉ X.ex->b ∉ ch:=fun b o e hx hb=>by
    rcases (hch b hb).1 with z | z
    · exact hx z
    · exact absurd (Nat.lt_of_lt_of_le (Heap.lt_size e) z) (Nat.lt_irrefl _)
  have cellK:∀ x c,X.env.cells.lookup x=some c->∀ v,s.heap.IsCell c v->h'.IsCell c v:=fun x c e v ⟨o,ho,hd⟩=>by
    have nch:c ∉ ch:=fun z=>(hch c z).2.2.1 x c e rfl
    by_cases hc:c∈X.fs
    · obtain ⟨sl,q⟩:=slot c o (I.cne x c e) hc nch ho (I.freeC x c e)
      exact ⟨_,q,hd⟩
    · exact ⟨o,keep c o (I.cne x c e) hc nch ho (I.freeC x c e),hd⟩
  refine ⟨I.ok,I.os,hg,⟨fun b o e n hb hx=>?_,fun b o e n hb hx=>?_,fun b o e n hx=>?_,fun b o e hx=>?_,fun b xs e=>tups b xs (I.base.tups b xs e),fun b o xs e=>frzs b o xs (I.base.frzs b o xs e),fun b ps e=>?_⟩,?_,fun x c e=>?_,?_,fun x c e=>?_,fun p hp=>?_,hok,I.len⟩
  · exact keep b o (neL b o e) hb (neC b o e hx) (I.base.keep b o e n hb hx) (I.base.free b o e n hx)
  · obtain ⟨sl,e1⟩:=I.base.slot b o e n hb hx
    obtain ⟨sl',e2⟩:=slot b _ (neL b o e) hb (neC b o e hx) e1 (I.base.free b o e n hx)
    exact ⟨sl',e2⟩
  · obtain ⟨o',e1⟩:=I.base.there b o e hx
    exact free b o' (neC b o e hx) e1 (I.base.free b o e n hx)
  · obtain ⟨o',e1⟩:=I.base.there b o e hx
    exact there b o' (neC b o e hx) e1
  · obtain ⟨m1,e1⟩:=I.base.tbls b ps e
    obtain ⟨m2,e2⟩:=tbls b _ e1
    exact ⟨m1++m2,by rw [e2,Array.append_assoc]⟩
  · obtain ⟨m,hn,hl⟩:=I.loc
    refine ⟨m,ns m hn,fun i x v e1 e2 e3=>?_⟩
    obtain ⟨u,r,l⟩:=hl i x v e1 e2 e3
    refine ⟨u,r,?_⟩
    rcases l with l | ⟨k,c,e,z⟩
    · exact .inl l
    · exact .inr ⟨k,c,e,cellK x c e _ z⟩
  · obtain ⟨v,z⟩:=I.cell x c e
    exact ⟨v,cellK x c e v z⟩
  · obtain ⟨m,⟨o,_,_,ho,_⟩,_⟩:=I.loc
    exact free _ o (fun z=>(hch _ z).2.1 rfl) ho I.free
  · obtain ⟨v,o,ho,hd⟩:=I.cell x c e
    exact free c o (fun z=>(hch c z).2.2.1 x c e rfl) ho (I.freeC x c e)
  · obtain ⟨e,n,ne,nf,d⟩:=I.pin p hp
    have nch:p.1 ∉ ch:=fun z=>(hch p.1 z).2.2.2 p hp rfl
    exact ⟨keep p.1 p.2 ne nf nch e n,free p.1 p.2 nch e n,ne,nf,d⟩
theorem Inv.un {t':Nat} (I:Inv X pins σ H s) (u:Un X.fs [] H H' s.heap h') (hok:HOk X.prog X.w H' h'):Inv X pins σ H' { s with heap:=h',toks:=t' }:=by
 obtain ⟨m,⟨o,es,ep,ho,r⟩,_⟩:=id I.loc
 obtain ⟨sl,hL⟩:=u.any ho I.free (by simp)
 exact I.step (g':=s.gens) (d':=s.drawn) (ch:=[]) (fun _ z=>nomatch z) (fun b o _ hb _ e n=>u.keep b o e n hb (by simp)) (fun b o _ hb _ e n=>u.slot b o e n hb (by simp)) (fun b o _ e n=>u.free b o e n (by simp)) (fun b o _ e=>u.there b o e (by simp)) u.tups u.frzs u.tbls (fun m' hm=>by
  obtain ⟨o',es',ep',ho',r'⟩:=hm
  rw [ho] at ho'; cases ho'
  exact ⟨_,es',ep',hL,r'⟩) hok I.bare
theorem Inv.call {g':Array GenState} {t':Nat} {d':Drawn} {ch:List Addr} (I:Inv X pins σ H s) (u:Un (frs X.stack) ch H H' s.heap h') (hok:HOk X.prog X.w H' h') (hg:AllBare g')
    (hch:∀ b∈ch,(b∈X.ex\/X.s₀.heap.objs.size<=b)/\b≠X.env.locals/\(∀ x c,X.env.cells.lookup x=some c->c≠b)/\∀ p∈X.pn++pins,p.1≠b) :
    Inv X pins σ H' { s with heap:=h',gens:=g',drawn:=d',toks:=t' }:=by
  obtain ⟨m,⟨o,es,ep,ho,r⟩,_⟩:=id I.loc
  obtain ⟨sl,hL⟩:=u.any ho I.free fun z=>(hch _ z).2.1 rfl
  exact I.step (ch:=ch) hch (fun b o hL hb hc e n=>u.keep b o e n (fun z=>(List.mem_cons.mp (I.stkSub b z)).elim hL hb) hc) (fun b o _ _ hc e n=>u.any e n hc) (fun b o hc e n=>u.free b o e n hc) (fun b o hc e=>u.there b o e hc) u.tups u.frzs u.tbls (fun m' hm=>by
    obtain ⟨o',es',ep',ho',r'⟩:=hm
    rw [ho] at ho'; cases ho'
    exact ⟨_,es',ep',hL,r'⟩) hok hg
theorem Inv.turned {t':Nat} {it:Addr} (I:Inv X pins σ H s) (k:∀ b o,b≠it->s.heap.get? b=some o->h'.get? b=some o) (hn:H it=none) (hL:it≠X.env.locals)
    (h1:it∈X.ex\/X.s₀.heap.objs.size<=it) (h2:∀ x c,X.env.cells.lookup x=some c->c≠it) (h3:∀ p∈X.pn++pins,p.1≠it):Inv X pins σ H { s with heap:=h',toks:=t' }:=by
  have nit:∀ b u,H b=some u->b≠it:=fun b u e z=>by rw [z,hn] at e; cases e
  refine I.step (g':=s.gens) (d':=s.drawn) (ch:=[it]) (fun b hb=>?_) (fun b o _ _ hc e _=>k b o (fun z=>hc (by simp [z])) e) (fun b o _ _ hc e _=>⟨o.slots,k b o (fun z=>hc (by simp [z])) e⟩) (fun _ _ _ _ n=>n)
    (fun b o hc e=>⟨o,k b o (fun z=>hc (by simp [z])) e⟩) (fun _ _ e=>e) (fun _ _ _ e=>e) (fun b ps e=>⟨#[],by rw [e]; simp⟩) (fun m hm=>?_) (fun b u e=>?_) I.bare
  · have e:b=it:=by simpa using hb
    subst e
    exact ⟨h1,hL,h2,h3⟩
  · obtain ⟨o,es,ep,ho,r⟩:=hm
    exact ⟨o,es,ep,k _ o (Ne.symm hL) ho,r⟩
  · refine (I.hok b u e).stay (fun c v hc q=>k c v ?_ q) (fun _ q=>q) fun _ _ q=>q
    rcases hc with z | z
    · rw [z]; exact nit b u e
    · exact nit c _ z
theorem Inv.tok (I:Inv X pins σ H s) (t:Nat):Inv X pins σ H { s with toks:=t }:=I.un (h':=s.heap) (t':=t) Un.refl I.hok
theorem Inv.kept {t':Nat} (I:Inv X pins σ H s) (k:∀ b u,s.heap.get? b=some u->h'.get? b=some u):Inv X pins σ H { s with heap:=h',toks:=t' }:=I.un (Un.kept k) (I.hok.kept k)
theorem Inv.laid {a:Addr} {o:HO} {t':Nat} (I:Inv X pins σ H s) (k:∀ b u,s.heap.get? b=some u->h'.get? b=some u) (hp:s.heap.objs.size<=a) (new:ObjOk X.prog X.w (upd H a o) h' a o) :
    Inv X pins σ (upd H a o) { s with heap:=h',toks:=t' }:=I.un (Un.laid k hp (I.hok.fresh hp)) (I.hok.laid k hp new)
theorem Inv.write {x e:Addr} {o:HO} {t':Nat} (I:Inv X pins σ H s) (mu:Mut (H x)) (he:e=x\/H e=some (.own x)) (k:∀ b u,b≠e->s.heap.get? b=some u->h'.get? b=some u) (heo:∃ u,h'.get? e=some u)
    (new:ObjOk X.prog X.w (upd H x o) h' x o):Inv X pins σ (upd H x o) { s with heap:=h',toks:=t' }:=I.un (Un.write mu he k heo) (I.hok.write mu he k heo new)
theorem Inv.pins_of {pins':List (Addr×Obj)} (I:Inv X pins σ H s) (h:∀ p∈pins',s.heap.get? p.1=some p.2/\H p.1=none/\p.1≠X.env.locals/\p.1 ∉ X.fs/\∀ v,p.2.data≠.cell v):Inv X pins' σ H s :=
 ⟨I.ok,I.os,I.bare,I.base,I.loc,I.cell,I.free,I.freeC,fun p hp=>(List.mem_append.mp hp).elim (fun z=>I.pin p (List.mem_append_left _ z)) (h p),I.hok,I.len⟩
theorem zoq {N:List Str} (hN:N.Nodup) {i j:Nat} {x:Str} (a:N[i]? = some x) (b:N[j]? = some x):i=j:=by
 obtain ⟨h1,e1⟩:=List.getElem?_eq_some_iff.mp a
 obtain ⟨h2,e2⟩:=List.getElem?_eq_some_iff.mp b
 exact (List.getElem_inj hN).mp (e1.trans e2.symm)
theorem zqq {M:Model} {A:Around} {E:Value->Shared->Prop} {i:Nat} {x:Str} {v:V} {u:Value} {Q:Unit->Shared->Prop} (I:Inv X pins σ H s) (hN:X.N.Nodup) (hi:X.N[i]? = some x) (hx:Loc X.env.scope x) (r:RelV v u)
    (h:∀ s',Inv X pins (σ.set i (some v)) H s'->(∃ a,Heap.SameBut a s.heap s'.heap/\(a=X.env.locals\/X.env.cells.lookup x=some a))->Q () s') (hf:X.fn x=true\/X.env.scope.names.lookup x=some .local:=by first | exact .inl rfl | exact .inr rfl | assumption):wpAny M A (storeName X.env x u) Q E s:=by
  obtain ⟨m,hn,hl⟩:=id I.loc
  have hcls:(X.env.scope.kind == .class || (X.env.scope.kind == .module && X.env.locals != X.env.globals))=false:=by rw [I.ok.kind]; rfl
  have hiσ:i < σ.length:=by rw [I.len]; exact (List.getElem?_eq_some_iff.mp hi).1
  have cne:=I.cne
  have tracked:∀ {a:Addr} {h':Heap},(∃ o,s.heap.get? a=some o/\H a=none)->Heap.SameBut a s.heap h'->HOk X.prog X.w H h':=fun {a h'} ha hs b ob e=>by
    obtain ⟨_,_,hfree⟩:=ha
    refine (I.hok b ob e).stay (fun c w' hc q=>(hs.2 c ?_).trans q) (fun _ q=>q) fun _ _ q=>q
    rintro rfl
    rcases hc with rfl | hc
    · rw [hfree] at e; cases e
    · rw [hfree] at hc; cases hc
  rcases hx with hk | hk
  · refine wpAny_storeName_local hk hn (fun h' hn' hs=>?_) hcls
    obtain ⟨oL,_,_,hoL,_⟩:=id hn
    refine h _ ⟨I.ok,I.os,I.bare,⟨fun b o e n hb hx=>?_,fun b o e n hb hx=>?_,I.base.free,fun b o e hx=>?_,I.base.tups,I.base.frzs,I.base.tbls⟩,⟨_,hn',fun j y v' e1 e2 e3=>?_⟩,fun y c e=>?_,I.free,I.freeC,fun p hp=>?_,tracked ⟨oL,hoL,I.free⟩ hs,by simpa using I.len⟩ ⟨_,hs,.inl rfl⟩
    · exact (hs.2 b (Nat.ne_of_lt (Nat.lt_of_lt_of_le (Heap.lt_size e) I.ok.above))).trans (I.base.keep b o e n hb hx)
    · obtain ⟨sl,e1⟩:=I.base.slot b o e n hb hx
      exact ⟨sl,(hs.2 b (Nat.ne_of_lt (Nat.lt_of_lt_of_le (Heap.lt_size e) I.ok.above))).trans e1⟩
    · obtain ⟨o',e1⟩:=I.base.there b o e hx
      exact ⟨o',(hs.2 b (Nat.ne_of_lt (Nat.lt_of_lt_of_le (Heap.lt_size e) I.ok.above))).trans e1⟩
    · by_cases hj:j=i
      · subst hj
        rw [hi] at e1; cases e1
        rw [List.getElem?_set_self hiσ] at e2
        cases e2
        exact ⟨u,r,.inl ⟨hk,by simp⟩⟩
      · rw [List.getElem?_set_ne (Ne.symm hj)] at e2
        obtain ⟨u',r',q⟩:=hl j y v' e1 e2 e3
        refine ⟨u',r',?_⟩
        rcases q with ⟨k,e⟩ | ⟨k,c,e,z⟩
        · refine .inl ⟨k,?_⟩
          have:y≠x:=fun e=>hj (zoq hN e1 (e ▸ hi))
          simp [this,e]
        · exact .inr ⟨k,c,e,z.sameBut hs (cne y c e)⟩
    · obtain ⟨w',z⟩:=I.cell y c e
      exact ⟨w',z.sameBut hs (cne y c e)⟩
    · obtain ⟨e,n,ne,nf,d⟩:=I.pin p hp
      exact ⟨(hs.2 p.1 ne).trans e,n,ne,nf,d⟩
  · have hfn:X.fn x=true:=by
      rcases hf with z | z
      · exact z
      · rw [z] at hk; cases hk
    obtain ⟨c,hc⟩:=I.ok.has x (.inl hk)
    obtain ⟨w',z⟩:=I.cell x c hc
    refine wpAny_storeName_cell I.ok.kind hk hc z (fun h' hc' hs=>?_)
    obtain ⟨oc,hoc,hocd⟩:=id z
    refine h { s with heap:=h' } ⟨I.ok,I.os,I.bare,⟨fun b o e n hb hx=>?_,fun b o e n hb hx=>?_,I.base.free,fun b o e hx=>?_,I.base.tups,I.base.frzs,I.base.tbls⟩,⟨m,hn.sameBut hs (Ne.symm (cne x c hc)),fun j y v' e1 e2 e3=>?_⟩,fun y c' e=>?_,I.free,I.freeC,fun p hp=>?_,tracked ⟨oc,hoc,I.freeC x c hc⟩ hs,by simpa using I.len⟩ ⟨c,hs,.inr hc⟩
    · exact (hs.2 b (Nat.ne_of_lt (Nat.lt_of_lt_of_le (Heap.lt_size e) (I.ok.cab x c hfn hc)))).trans (I.base.keep b o e n hb hx)
    · obtain ⟨sl,e1⟩:=I.base.slot b o e n hb hx
      exact ⟨sl,(hs.2 b (Nat.ne_of_lt (Nat.lt_of_lt_of_le (Heap.lt_size e) (I.ok.cab x c hfn hc)))).trans e1⟩
    · obtain ⟨o',e1⟩:=I.base.there b o e hx
      exact ⟨o',(hs.2 b (Nat.ne_of_lt (Nat.lt_of_lt_of_le (Heap.lt_size e) (I.ok.cab x c hfn hc)))).trans e1⟩
    · by_cases hj:j=i
      · subst hj
        rw [hi] at e1; cases e1
        rw [List.getElem?_set_self hiσ] at e2
        cases e2
        exact ⟨u,r,.inr ⟨.inl hk,c,hc,hc'⟩⟩
      · rw [List.getElem?_set_ne (Ne.symm hj)] at e2
        obtain ⟨u',r',q⟩:=hl j y v' e1 e2 e3
        refine ⟨u',r',?_⟩
        rcases q with q | ⟨k,c',e,z'⟩
        · exact .inl q
        · refine .inr ⟨k,c',e,z'.sameBut hs ?_⟩
          rintro rfl
          exact hj (zoq hN e1 (I.ok.inj _ _ _ e hc ▸ hi))
    · by_cases hcc:c'=c
      · subst hcc; exact ⟨_,hc'⟩
      · obtain ⟨w2,z2⟩:=I.cell y c' e
        exact ⟨w2,z2.sameBut hs hcc⟩
    · obtain ⟨e,n,ne,nf,d⟩:=I.pin p hp
      refine ⟨(hs.2 p.1 ?_).trans e,n,ne,nf,d⟩
      intro q
      rw [q,hoc] at e
      have q':oc=p.2:=Option.some.inj e
      exact d w' (by rw [<- q']; exact hocd)
theorem zor {M:Model} {A:Around} {E:Value->Shared->Prop} {i:Nat} {x:Str} {v:V} {u:Value} {Q:Unit->Shared->Prop} (I:Inv X pins σ H s) (hN:X.N.Nodup) (hi:X.N[i]? = some x) (hx:Loc X.env.scope x) (r:RelV v u)
    (h:∀ s',Inv X pins (σ.set i (some v)) H s'->Q () s') (hf:X.fn x=true\/X.env.scope.names.lookup x=some .local:=by first | exact .inl rfl | exact .inr rfl | assumption):wpAny M A (storeName X.env x u) Q E s :=
  zqq I hN hi hx r (fun s' I' _=>h s' I') hf
theorem Inv.call' {s':Shared} {ch:List Addr} (I:Inv X pins σ H s) (ho:s'.os=s.os) (u:Un (frs X.stack) ch H H' s.heap s'.heap) (hok:HOk X.prog X.w H' s'.heap) (hg:AllBare s'.gens)
    (hch:∀ b∈ch,(b∈X.ex\/X.s₀.heap.objs.size<=b)/\b≠X.env.locals/\(∀ x c,X.env.cells.lookup x=some c->c≠b)/\∀ p∈X.pn++pins,p.1≠b):Inv X pins σ H' s':=by
  obtain ⟨h',g',d',t',o'⟩:=s'
  have e:o'=s.os:=ho
  subst e
  exact I.call (g':=g') (t':=t') (d':=d') u hok hg hch
end
abbrev XK:=Value->Option Addr->Hp->Prop
abbrev St:=List (Option V)
abbrev VK:=V->Hp->Prop
abbrev TE:=St->Hp->VK->Prop
abbrev TT:=St->Hp->(Bool->Hp->Prop)->Prop
abbrev TA:=St->Hp->(List V->Hp->Prop)->Prop
structure Ends where
 nx:St->Hp->Prop
 rt:VK
 bk:St->Hp->Prop:=fun _ _=>False
 ct:St->Hp->Prop:=fun _ _=>False
abbrev TS:=Ends->St->Hp->Prop
def EP (X:Cx) (pins:List (Addr×Obj)) (σ:St) (Q:VK) (u:Value) (s':Shared):Prop:=∃ v H',Inv X pins σ H' s'/\RelV v u/\Q v H'
def TP (X:Cx) (pins:List (Addr×Obj)) (σ:St) (Q:Bool->Hp->Prop) (b:Bool) (s':Shared):Prop:=∃ H',Inv X pins σ H' s'/\Q b H'
def AP (X:Cx) (pins:List (Addr×Obj)) (σ:St) (Q:List V->Hp->Prop) (us:List Value) (s':Shared):Prop:=∃ vs H',Inv X pins σ H' s'/\Vals vs us/\Q vs H'
def SP (X:Cx) (pins:List (Addr×Obj)) (D:Ends) (f:Flow) (s':Shared):Prop :=
 match f with
 | .next=>∃ σ' H',Inv X pins σ' H' s'/\D.nx σ' H'
 | .brk=>∃ σ' H',Inv X pins σ' H' s'/\D.bk σ' H'
 | .cont=>∃ σ' H',Inv X pins σ' H' s'/\D.ct σ' H'
 | .ret u=>∃ v σ' H',Inv X pins σ' H' s'/\RelV v u/\D.rt v H'
def PE (X:Cx) (e:Expr) (t:TE):Prop :=
 ∀ (pins:List (Addr×Obj)) (s:Shared) (σ:St) (H:Hp) (Q:VK),Inv X pins σ H s->t σ H Q->wpAny (model X.prog X.w) X.A (eval e X.env) (EP X pins σ Q) X.xe s
def PT (X:Cx) (e:Expr) (t:TT):Prop :=
 ∀ (pins:List (Addr×Obj)) (s:Shared) (σ:St) (H:Hp) (Q:Bool->Hp->Prop),Inv X pins σ H s->t σ H Q->wpAny (model X.prog X.w) X.A (isTrue e X.env (eval e X.env)) (TP X pins σ Q) X.xe s
def PW (X:Cx) (e:Expr) (t:TT):Prop :=
 ∀ (whole:Sem Value) (pins:List (Addr×Obj)) (s:Shared) (σ:St) (H:Hp) (Q:Bool->Hp->Prop),Inv X pins σ H s->t σ H Q->wpAny (model X.prog X.w) X.A (isTrue e X.env whole) (TP X pins σ Q) X.xe s
theorem PW.pt {X:Cx} {e:Expr} {t:TT} (h:PW X e t):PT X e t:=h _
def PA (X:Cx) (es:List Expr) (t:TA):Prop :=
 ∀ (pos:Pos) (pins:List (Addr×Obj)) (s:Shared) (σ:St) (H:Hp) (Q:List V->Hp->Prop),Inv X pins σ H s->t σ H Q->wpAny (model X.prog X.w) X.A (spliced (backTo pos (starEach es X.env))) (AP X pins σ Q) X.xe s
def PS (X:Cx) (st:Stmt) (t:TS):Prop :=
 ∀ (pins:List (Addr×Obj)) (s:Shared) (σ:St) (H:Hp) (D:Ends),Inv X pins σ H s->t D σ H->wpAny (model X.prog X.w) X.A (exec st X.env) (SP X pins D) X.xe s
def PSs (X:Cx) (st:List Stmt) (t:TS):Prop :=
 ∀ (pins:List (Addr×Obj)) (s:Shared) (σ:St) (H:Hp) (D:Ends),Inv X pins σ H s->t D σ H->wpAny (model X.prog X.w) X.A (execs st X.env) (SP X pins D) X.xe s
theorem thn {α:Type} {t:Sem α} {Q Q':α->Shared->Prop} {M:Model} {A:Around} {E:Value->Shared->Prop} {s:Shared} (h:wpAny M A t Q E s) (hQ:∀ a s,Q a s->Q' a s):wpAny M A t Q' E s:=wpAny_mono h hQ fun _ _ x=>x
end L2
namespace L2
open PySem PySem.Spec PyProof.Rows
section
variable {X:Cx}
def tVar (i:Nat):TE:=fun σ H Q=>∃ v,σ[i]? = some (some v)/\Q v H
def tC (v:V):TE:=fun _ H Q=>Q v H
theorem zxd {i:Nat} {x:Str} {pos:Pos} (hN:X.N[i]? = some x) (hv:Vis X.env.scope x) (hd:(x == ("__debug__" : Str))=false:=by decide) (hcd:(x == ("__classdict__" : Str))=false:=by decide):PE X (.Name x pos) (tVar i):=by
 intro pins s σ H Q I h
 obtain ⟨v,e,h⟩:=h
 obtain ⟨m,hn,hl⟩:=I.loc
 obtain ⟨u,r,l⟩:=hl i x v hN e hv
 have fin:EP X pins σ Q u s:=⟨v,H,I,r,h⟩
 rcases l with ⟨hk,hm⟩ | ⟨hk,c,hc,hcell⟩
 ·exact wpAny_Name (wpAny_loadName_local I.ok.kind hk hn hm fin) hd
 ·rcases hk with hk | hk
  ·exact wpAny_Name (wpAny_loadName_cell I.ok.kind hk hc hcell fin) hd
  ·exact wpAny_Name (wpAny_loadName_free I.ok.kind hk hc hcell fin hcd) hd
theorem zak {i j pos}:PE X (.Constant (.int i) j pos) (tC (.int i)):=fun _ _ _ H _ I h=>wpAny_Constant_int ⟨.int i,H,I.tok _,⟨_,rfl⟩,h⟩
theorem pe_bl {b j pos}:PE X (.Constant (.bool b) j pos) (tC (.bl b)):=fun _ _ _ H _ I h=>Constant_bool ⟨.bl b,H,I,rfl,h⟩
theorem zdd {j pos}:PE X (.Constant .none j pos) (tC .non):=fun _ _ _ H _ I h=>Constant_none ⟨.non,H,I,rfl,h⟩
theorem zbd {x j pos}:PE X (.Constant (.str x) j pos) (tC (.str x)):=fun _ _ _ H _ I h=>Calls.Constant_str ⟨.str x,H,I.tok _,⟨_,rfl⟩,h⟩
def Gl (X:Cx) (x:Str):Prop:=X.env.kindOf x=some .globalImplicit
theorem zgq {E:Value->Shared->Prop} {pins:List (Addr×Obj)} {s:Shared} {σ:St} {H:Hp} {x:Str} {u:Value} {pos:Pos} {Q:Value->Shared->Prop} (I:Inv X pins σ H s) (hg:Gl X x) (hm:X.mg x=some u) (h:Q u s)
    (hd:(x == ("__debug__" : Str))=false:=by decide):wpAny (model X.prog X.w) X.A (eval (.Name x pos) X.env) Q E s :=
  Calls.Name_function_global I.ok.kind hg (Calls.loadGlobal_global (by rw [I.ok.glob]; exact I.mod.glob.keeps I.bk) hm h) hd
theorem zos {E:Value->Shared->Prop} {pins:List (Addr×Obj)} {s:Shared} {σ:St} {H:Hp} {x:Str} {u:Value} {pos:Pos} {Q:Value->Shared->Prop} (I:Inv X pins σ H s) (hg:Gl X x) (hm:X.mg x=none) (hv:bootBuiltins x=some u) (h:Q u s)
    (hn:x ≠ "__name__" := by decide) (hd:(x == ("__debug__" : Str))=false:=by decide):wpAny (model X.prog X.w) X.A (eval (.Name x pos) X.env) Q E s:=by
  obtain ⟨mb,h1,h2⟩:=I.mod.blt
  exact Calls.Name_function_global I.ok.kind hg (Calls.loadGlobal_builtin (by rw [I.ok.glob]; exact I.mod.glob.keeps I.bk) hm (by rw [I.ok.blt]; exact h1.keeps I.bk) ((h2 x hn).trans hv) h) hd
theorem zkt {x:Str} {v:V} {u:Value} {pos:Pos} (hg:Gl X x) (hm:X.mg x=some u) (r:RelV v u) (hd:(x == ("__debug__" : Str))=false:=by decide):PE X (.Name x pos) (tC v) :=
 fun _ _ _ H _ I h=>zgq I hg hm ⟨v,H,I,r,h⟩ hd
theorem zhs {x:Str} {v:V} {u:Value} {pos:Pos} (hg:Gl X x) (hm:X.mg x=none) (hv:bootBuiltins x=some u) (r:RelV v u) (hn:x ≠ "__name__" := by decide) (hd:(x == ("__debug__" : Str))=false:=by decide):PE X (.Name x pos) (tC v) :=
 fun _ _ _ H _ I h=>zos I hg hm hv ⟨v,H,I,r,h⟩ hn hd
variable {a b:Expr} {ta tb:TE} {pos:Pos}
def PC (X:Cx) (op:CmpOp) (a b:Expr) (t:TE):Prop :=
 ∀ (pins:List (Addr×Obj)) (s:Shared) (σ:St) (H:Hp) (Q:VK),Inv X pins σ H s->t σ H Q ->
  wpAny (model X.prog X.w) X.A (eval a X.env) (fun v s₁=>wpAny (model X.prog X.w) X.A (eval b X.env) (fun u s₂=>wpAny (model X.prog X.w) X.A (compareOp op v u) (EP X pins σ Q) X.xe s₂) X.xe s₁) X.xe s
def tB (t:TE):TT:=fun σ H Q=>t σ H fun x H1=>∃ c,x = .bl c/\Q c H1
theorem zgk {op:CmpOp} {t:TE} (h:PC X op a b t) (h1:behindInMarks op b=false:=by first | exact nobehind _ (by decide) (by decide) | rfl):PT X (.Compare a [op] [b] pos) (tB t):=by
 intro pins s σ H Q I hw
 refine wpAny_isTrue_Compare1 (thn (h pins s σ H _ I hw) fun v s1 h1=>thn h1 fun u s2 h2=>thn h2 fun c s3 ⟨x,H1,I1,r1,q1⟩=>?_) h1
 obtain ⟨d,rfl,q⟩:=q1
 cases r1
 exact wpAny_truthy_bool ⟨H1,I1,q⟩
theorem zhz {e:Expr} {t:TE} (h:PE X e t) (he:∀ whole,isTrue e X.env whole=(do let v <- whole; standAt e.pos; holding [v] (truthy v)):=by intro _; rfl):PT X e (tB t):=by
 intro pins s σ H Q I hw
 refine isTrue_plain (thn (h pins s σ H _ I hw) fun v s1 ⟨x,H1,I1,r1,q1⟩=>?_) (he _)
 obtain ⟨d,rfl,q⟩:=q1
 cases r1
 exact wpAny_truthy_bool ⟨H1,I1,q⟩
variable {tA tB':TT} {rest:List Expr}
def tAnd (t u:TT):TT:=fun σ H Q=>t σ H fun c H1=>if c=true then u σ H1 Q else Q false H1
def tOr (t u:TT):TT:=fun σ H Q=>t σ H fun c H1=>if c=true then Q true H1 else u σ H1 Q
def tNot (t:TT):TT:=fun σ H Q=>t σ H fun c H1=>Q (!c) H1
theorem zih (ha:PT X a tA):PW X (.BoolOp .And [a] pos) tA:=by
 intro wh pins s σ H Q I h
 refine isTrue_and (thn (ha pins s σ H Q I h) fun c s1 e=>?_)
 cases c with
 | true=>exact isTrue_and_nil e
 | false=>exact e
theorem zqr (ha:PT X a tA):PW X (.BoolOp .Or [a] pos) tA:=by
 intro wh pins s σ H Q I h
 refine isTrue_or (thn (ha pins s σ H Q I h) fun c s1 e=>?_)
 cases c with
 | false=>exact isTrue_or_nil e
 | true=>exact e
theorem zki (ha:PT X a tA) (hb:PW X (.BoolOp .And (b :: rest) pos) tB'):PW X (.BoolOp .And (a :: b :: rest) pos) (tAnd tA tB'):=by
 intro wh pins s σ H Q I h
 refine isTrue_and (thn (ha pins s σ H _ I h) fun c s1 ⟨H1,I1,q1⟩=>?_)
 cases c with
 | true=>exact hb wh pins s1 σ H1 Q I1 q1
 | false=>exact ⟨H1,I1,q1⟩
theorem pw_or (ha:PT X a tA) (hb:PW X (.BoolOp .Or (b :: rest) pos) tB'):PW X (.BoolOp .Or (a :: b :: rest) pos) (tOr tA tB'):=by
 intro wh pins s σ H Q I h
 refine isTrue_or (thn (ha pins s σ H _ I h) fun c s1 ⟨H1,I1,q1⟩=>?_)
 cases c with
 | true=>exact ⟨H1,I1,q1⟩
 | false=>exact hb wh pins s1 σ H1 Q I1 q1
theorem zii (ha:PT X a tA):PT X (.UnaryOp .Not a pos) (tNot tA):=by
 intro pins s σ H Q I h
 exact isTrue_not (ha pins s σ H (fun c H1=>Q (!c) H1) I h)
def tAndV (ta tb:TE):TE:=fun σ H Q=>ta σ H fun x H1=>∃ c,x = .bl c/\if c=true then tb σ H1 Q else Q (.bl false) H1
def tOrV (ta tb:TE):TE:=fun σ H Q=>ta σ H fun x H1=>∃ c,x = .bl c/\if c=true then Q (.bl true) H1 else tb σ H1 Q
def tNotV (ta:TE):TE:=fun σ H Q=>ta σ H fun x H1=>∃ c,x = .bl c/\Q (.bl (!c)) H1
theorem zia {op} {t:TE} (h:PE X a t):PE X (.BoolOp op [a] pos) t:=fun pins s σ H Q I hw=>BoolOp_one (h pins s σ H Q I hw)
theorem zij (ha:PE X a ta) (hb:PE X (.BoolOp .And (b :: rest) pos) tb):PE X (.BoolOp .And (a :: b :: rest) pos) (tAndV ta tb):=by
 intro pins s σ H Q I h
 refine BoolOp_and (thn (ha pins s σ H _ I h) fun v s1 ⟨x,H1,I1,r1,q1⟩=>?_)
 obtain ⟨c,rfl,q1⟩:=q1
 cases r1
 refine wpAny_truthy_bool ?_
 cases c with
 | true=>exact hb pins s1 σ H1 Q I1 q1
 | false=>exact ⟨.bl false,H1,I1,rfl,q1⟩
theorem pe_or (ha:PE X a ta) (hb:PE X (.BoolOp .Or (b :: rest) pos) tb):PE X (.BoolOp .Or (a :: b :: rest) pos) (tOrV ta tb):=by
 intro pins s σ H Q I h
 refine BoolOp_or (thn (ha pins s σ H _ I h) fun v s1 ⟨x,H1,I1,r1,q1⟩=>?_)
 obtain ⟨c,rfl,q1⟩:=q1
 cases r1
 refine wpAny_truthy_bool ?_
 cases c with
 | false=>exact hb pins s1 σ H1 Q I1 q1
 | true=>exact ⟨.bl true,H1,I1,rfl,q1⟩
theorem zum (ha:PE X a ta):PE X (.UnaryOp .Not a pos) (tNotV ta):=by
 intro pins s σ H Q I h
 refine UnaryOp_ (thn (ha pins s σ H _ I h) fun v s1 ⟨x,H1,I1,r1,q1⟩=>?_)
 obtain ⟨c,rfl,q1⟩:=q1
 cases r1
 exact not_of (wpAny_truthy_bool ⟨.bl (!c),H1,I1,rfl,q1⟩)
def tIf (t:TT) (ta tb:TE):TE:=fun σ H Q=>t σ H fun c H1=>if c=true then ta σ H1 Q else tb σ H1 Q
theorem zsz {c:Expr} (hc:PT X c tA) (ha:PE X a ta) (hb:PE X b tb):PE X (.IfExp c a b pos) (tIf tA ta tb):=by
 intro pins s σ H Q I h
 refine wpAny_IfExp (thn (hc pins s σ H _ I h) fun d s1 ⟨H1,I1,q1⟩=>?_)
 cases d with
 | true=>exact ha pins s1 σ H1 Q I1 q1
 | false=>exact hb pins s1 σ H1 Q I1 q1
end
end L2
namespace L2
open PySem PySem.Spec PyProof.Rows
def SqL (K:PySem.W.Frag) (H:Hp) (a:Addr) (xs:List V):Prop :=
 Rd H a (.lst xs) \/
  ∃ (o:Obj) (its:Array Value) (n:Nat),K.lookup a=some o/\o.cls = .type "list" /\ o.dict=none/\o.data = .seq its n/\its.size<=sizeLine/\Vals xs its.toList
def SqT (K:PySem.W.Frag) (H:Hp) (a:Addr) (xs:List V):Prop :=
 Rd H a (.tup xs) \/
  ∃ (o:Obj) (its:Array Value) (n:Nat),K.lookup a=some o/\o.cls = .type "tuple" /\ o.data = .seq its n/\its.size<=sizeLine/\Vals xs its.toList
def absV:Value->Option V
 | .none=>some .non
 | .bool b=>some (.bl b)
 | .int i _=>some (.int i)
 | .str x _=>some (.str x)
 | .bytes b _=>some (.byt b)
 | .float b _=>some (.flt b)
 | .ref a=>some (.ref a)
 | .type n=>some (.ty n)
 | _=>none
theorem RelV.abs {x:V} {u:Value} (r:RelV x u):absV u=some x:=by
 cases x with
 | non=>cases r; rfl
 | bl _=>cases r; rfl
 | int _=>obtain ⟨t,rfl⟩:=r; rfl
 | str _=>obtain ⟨t,rfl⟩:=r; rfl
 | byt _=>obtain ⟨t,rfl⟩:=r; rfl
 | flt _=>obtain ⟨t,rfl⟩:=r; rfl
 | ref _=>cases r; rfl
 | ty _=>cases r; rfl
theorem RelV.inj {x y:V} {u:Value} (r:RelV x u) (q:RelV y u):x=y:=Option.some.inj (r.abs.symm.trans q.abs)
theorem Vals.inj:∀ {xs ys:List V} {us:List Value},Vals xs us->Vals ys us->xs=ys
 | _,_,_,.nil,.nil=>rfl
 | _,_,_,.cons r t,.cons r' t'=>by rw [r.inj r',Vals.inj t t']
section
variable {X:Cx} {pins:List (Addr×Obj)} {σ:St} {H:Hp} {s:Shared} {a:Addr} {xs ys:List V}
theorem SqL.of {K:PySem.W.Frag} (h:H a=some (.lst xs)):SqL K H a xs:=.inl (.inl h)
theorem SqT.of {K:PySem.W.Frag} (h:H a=some (.tup xs)):SqT K H a xs:=.inl (.inl h)
theorem Inv.list (I:Inv X pins σ H s) (h:SqL X.K H a xs):∃ its:List Value,Vals xs its/\PlainL s.heap a its.toArray/\xs.length<=sizeLine:=by
 rcases h with h | ⟨o,its,n,hk,hc,hd,hs,hz,r⟩
 ·obtain ⟨z,its,n,r,e⟩:=h.ok I.hok
  exact ⟨its,r,⟨_,n,e,rfl,rfl,rfl⟩,z⟩
 ·refine ⟨its.toList,r,⟨o,n,I.kIn a o hk,hc,hd,by simpa using hs⟩,?_⟩
  have e:=r.length
  simp only [Array.length_toList] at e
  omega
theorem Inv.tuple (I:Inv X pins σ H s) (h:SqT X.K H a xs):∃ its:List Value,Vals xs its/\IsTup s.heap a its.toArray/\xs.length<=sizeLine:=by
 rcases h with h | ⟨o,its,n,hk,hc,hs,hz,r⟩
 ·obtain ⟨z,its,r,p⟩:=h.ok I.hok
  exact ⟨its,r,p,z⟩
 ·refine ⟨its.toList,r,⟨o,I.kIn a o hk,hc,n,by simpa using hs⟩,?_⟩
  have e:=r.length
  simp only [Array.length_toList] at e
  omega
theorem Inv.list_inj (I:Inv X pins σ H s) (h:SqL X.K H a xs) (h':SqL X.K H a ys):xs=ys:=by
 obtain ⟨its,r,⟨o,n,e,_,_,d⟩,_⟩:=I.list h
 obtain ⟨its',r',⟨o',n',e',_,_,d'⟩,_⟩:=I.list h'
 rw [e] at e'; cases e'
 rw [d] at d'
 injection d' with d1 _
 have:its=its':=by simpa using congrArg Array.toList d1
 subst this
 exact r.inj r'
end
abbrev Cx.wish (X:Cx) (E:Value->Shared->Prop):Cx:={ X with xe:=E }
abbrev Cx.nox (X:Cx):Cx:=X.wish fun _ _=>False
theorem Cx.Ok.wish {X:Cx} (ok:X.Ok) (E:Value->Shared->Prop):(X.wish E).Ok :=
 ⟨ok.mod,ok.kind,ok.glob,ok.blt,ok.above,ok.inj,ok.has,ok.cab,ok.hd,ok.frames,ok.stk,ok.exf,ok.bs,ok.bsz,ok.noex,ok.exfs,ok.funs,ok.frf⟩
theorem Cx.Ok.unwish {X:Cx} {E:Value->Shared->Prop} (ok:(X.wish E).Ok):X.Ok :=
 ⟨ok.mod,ok.kind,ok.glob,ok.blt,ok.above,ok.inj,ok.has,ok.cab,ok.hd,ok.frames,ok.stk,ok.exf,ok.bs,ok.bsz,ok.noex,ok.exfs,ok.funs,ok.frf⟩
section
variable {X:Cx} {pins:List (Addr×Obj)} {σ:St} {H:Hp} {s:Shared} {E:Value->Shared->Prop}
theorem Inv.wish (I:Inv X pins σ H s) (E:Value->Shared->Prop):Inv (X.wish E) pins σ H s:=⟨I.ok.wish E,I.os,I.bare,I.base,I.loc,I.cell,I.free,I.freeC,I.pin,I.hok,I.len⟩
theorem Inv.unwish (I:Inv (X.wish E) pins σ H s):Inv X pins σ H s:=⟨I.ok.unwish,I.os,I.bare,I.base,I.loc,I.cell,I.free,I.freeC,I.pin,I.hok,I.len⟩
theorem SP.unwish {D:Ends} {f:Flow} {s':Shared} (h:SP (X.wish E) pins D f s'):SP X pins D f s':=by
 cases f with
 | next=>obtain ⟨σ',H',I,q⟩:=h; exact ⟨σ',H',I.unwish,q⟩
 | brk=>obtain ⟨σ',H',I,q⟩:=h; exact ⟨σ',H',I.unwish,q⟩
 | cont=>obtain ⟨σ',H',I,q⟩:=h; exact ⟨σ',H',I.unwish,q⟩
 | ret u=>obtain ⟨v,σ',H',I,r,q⟩:=h; exact ⟨v,σ',H',I.unwish,r,q⟩
theorem PSs.nox {st:List Stmt} {t:TS} (h:PSs X.nox st t):PSs X st t:=fun pins s σ H D I hw =>
 wpAny_mono (h pins s σ H D (I.wish _) hw) (fun _ _ q=>q.unwish) fun _ _ z=>False.elim z
end
section
variable {X:Cx} {st:Stmt} {rest:List Stmt} {t u:TS} {e:Expr} {te:TE} {pos:Pos}
def tNext:TS:=fun D σ H=>D.nx σ H
def tSeq (t u:TS):TS:=fun D σ H=>t { D with nx:=u D } σ H
theorem zaq:PSs X [] tNext:=fun _ _ σ H _ I h=>wpAny_execs_nil ⟨σ,H,I,h⟩
theorem zad (h1:PS X st t) (h2:PSs X rest u):PSs X (st :: rest) (tSeq t u):=by
 intro pins s σ H D I h
 refine wpAny_execs_cons (thn (h1 pins s σ H { D with nx:=u D } I h) fun f s1 q=>?_)
 cases f with
 | next =>
  obtain ⟨σ',H',I',q⟩:=q
  exact h2 pins s1 σ' H' D I' q
 | ret v=>exact q
 | brk=>exact q
 | cont=>exact q
theorem zaf (h1:PS X st t):PSs X [st] t:=by
 intro pins s σ H D I h
 refine wpAny_execs_cons (thn (h1 pins s σ H D I h) fun f s1 q=>?_)
 cases f with
 | next=>exact wpAny_execs_nil q
 | ret v=>exact q
 | brk=>exact q
 | cont=>exact q
theorem Inv.quiet {pins:List (Addr×Obj)} {σ:St} {H:Hp} {s:Shared} (I:Inv X pins σ H s):interactive X.env=false:=by simp [interactive,I.ok.kind]
def tDrop (te:TE):TS:=fun D σ H=>te σ H fun _ H1=>D.nx σ H1
theorem zav (he:PE X e te) (hs:swapsWith e none pos.line X.env=pure false:=by rfl):PS X (.Expr e pos) (tDrop te):=by
 intro pins s σ H D I h
 exact wpAny_Expr_any (thn (he pins s σ H _ I h) fun v s1 ⟨x,H1,I1,r1,q1⟩=>⟨σ,H1,I1,q1⟩) I.quiet hs
def tRet (te:TE):TS:=fun D σ H=>te σ H D.rt
theorem zar (he:PE X e te):PS X (.Return (some e) pos) (tRet te):=by
 intro pins s σ H D I h
 exact wpAny_Return_some (thn (he pins s σ H _ I h) fun v s1 ⟨x,H1,I1,r1,q1⟩=>⟨x,σ,H1,I1,r1,q1⟩)
def tRetN:TS:=fun D _ H=>D.rt .non H
def tIfS (c:TT) (t u:TS):TS:=fun D σ H=>c σ H fun b H1=>if b=true then t D σ H1 else u D σ H1
theorem ps_if {c:Expr} {a b:List Stmt} {tc:TT} (hc:PT X c tc) (ha:PSs X a t) (hb:PSs X b u):PS X (.If c a b pos) (tIfS tc t u):=by
 intro pins s σ H D I h
 refine wpAny_If (thn (hc pins s σ H _ I h) fun d s1 ⟨H1,I1,q1⟩=>?_)
 cases d with
 | true=>exact ha pins s1 σ H1 D I1 q1
 | false=>exact hb pins s1 σ H1 D I1 q1
def zxe:TS:=fun _ _ _=>False
theorem zta:PS X st zxe:=fun _ _ _ _ _ _ h=>h.elim
end
abbrev TG:=V->St->Hp->(St->Hp->Prop)->Prop
abbrev TGs:=List V->St->Hp->(St->Hp->Prop)->Prop
def PG (X:Cx) (target:Expr) (t:TG):Prop :=
 ∀ (pins:List (Addr×Obj)) (s:Shared) (σ:St) (H:Hp) (v:V) (u:Value) (Q:St->Hp->Prop),Inv X pins σ H s->RelV v u->t v σ H Q ->
  wpAny (model X.prog X.w) X.A (assign target X.env u) (fun _ s'=>∃ σ' H',Inv X pins σ' H' s'/\Q σ' H') X.xe s
def PGs (X:Cx) (ts:List Expr) (t:TGs):Prop :=
 ∀ (pins:List (Addr×Obj)) (s:Shared) (σ:St) (H:Hp) (vs:List V) (us:List Value) (Q:St->Hp->Prop),Inv X pins σ H s->Vals vs us->t vs σ H Q ->
  wpAny (model X.prog X.w) X.A (assignInOrder ((assignEach ts X.env).map (·.2)) us) (fun _ s'=>∃ σ' H',Inv X pins σ' H' s'/\Q σ' H') X.xe s
section
variable {X:Cx} {pos:Pos}
def gName (i:Nat):TG:=fun v σ H Q=>Q (σ.set i (some v)) H
theorem zbs {i:Nat} {x:Str} (hN:X.N.Nodup) (hi:X.N[i]? = some x) (hx:Loc X.env.scope x) (hf:X.fn x=true\/X.env.scope.names.lookup x=some .local:=by first | exact .inl rfl | exact .inr rfl | assumption):PG X (.Name x pos) (gName i):=by
 intro pins s σ H v u Q I r h
 exact wpAny_assign_Name (zor I hN hi hx r (fun s' I'=>⟨_,H,I',h⟩) hf)
def gNil:TGs:=fun vs σ H Q=>vs = []/\Q σ H
def gCons (t:TG) (u:TGs):TGs:=fun vs σ H Q=>∃ v r,vs=v :: r/\t v σ H fun σ' H'=>u r σ' H' Q
theorem zgr:PGs X [] gNil:=by
 intro pins s σ H vs us Q I r h
 obtain ⟨e,h⟩:=h
 subst e
 cases r
 exact assignInOrder_nil ⟨σ,H,I,h⟩
theorem zct {e:Expr} {es:List Expr} {t:TG} {u:TGs} (h1:PG X e t) (h2:PGs X es u)
    (hs:(assignEach (e :: es) X.env).map (·.2)=assign e X.env :: (assignEach es X.env).map (·.2):=by rfl):PGs X (e :: es) (gCons t u):=by
  intro pins s σ H vs us Q I r h
  obtain ⟨v,vr,e1,h⟩:=h
  subst e1
  cases r with
  | cons r rr =>
    rw [hs]
    refine assignInOrder_cons (thn (h1 pins s σ H _ _ _ I r h) fun _ s1 ⟨σ1,H1,I1,q1⟩=>?_)
    exact h2 pins s1 σ1 H1 _ _ Q I1 rr q1
def gTup (K:PySem.W.Frag) (n:Nat) (t:TGs):TG:=fun v σ H Q=>∃ a xs,v = .ref a/\SqT K H a xs/\xs.length=n/\t xs σ H Q
theorem zxf {es:List Expr} {k:Nat} {t:TGs} {n:Nat} (hc:X.calm=true) (h:PGs X es t)
    (hn:(assignEach es X.env).length=n:=by rfl) (hst:(assignEach es X.env).findIdx? (·.1)=none:=by rfl):PG X (.Tuple es k pos) (gTup X.K n t):=by
  intro pins s σ H v u Q I r hw
  obtain ⟨a,xs,e1,hq,hl,hw⟩:=hw
  subst e1
  cases r
  obtain ⟨its,rv,ht,hz⟩:=I.tuple hq
  refine assign_Tuple_tuple (I.ok.hd hc) ht (by simp [hn,<- hl,rv.length]) hst fun h' hx=>?_
  have I1:Inv X pins σ H { s with heap:=h' }:=I.kept (t':=s.toks) fun b o e=>hx b o (Nat.ne_of_lt (Heap.lt_size e)) e
  exact h pins _ σ H xs _ Q I1 (by simpa using rv) hw
def tAsg (te:TE) (g:TG):TS:=fun D σ H=>te σ H fun x H1=>g x σ H1 D.nx
theorem zxg {tg e:Expr} {te:TE} {g:TG} (he:PE X e te) (hg:PG X tg g) (hs:swapsWithSole [tg] e pos.line X.env=pure false:=by rfl) (hw:swappedStores [tg] e X.env=pure none:=by rfl)
    (h1:(assignEach [tg] X.env).map (·.2) = [assign tg X.env]:=by rfl):PS X (.Assign [tg] e pos) (tAsg te g):=by
  intro pins s σ H D I h
  refine wpAny_Assign_stores (thn (he pins s σ H _ I h) fun v s1 ⟨x,H1,I1,r1,q1⟩=>?_) hs hw
  rw [h1]
  exact thn (hg pins s1 σ H1 x v _ I1 r1 q1) fun _ s2 q=>q
theorem zbg {i:Nat} {x:Str} {e:Expr} {te:TE} {pos':Pos} (hN:X.N.Nodup) (hi:X.N[i]? = some x) (hx:Loc X.env.scope x) (he:PE X e te) (hs:swapsWith e (some (.Name x pos')) pos.line X.env=pure false:=by rfl) (hf:X.fn x=true\/X.env.scope.names.lookup x=some .local:=by first | exact .inl rfl | exact .inr rfl | assumption) :
    PS X (.Assign [.Name x pos'] e pos) (tAsg te (gName i)):=by
  intro pins s σ H D I h
  refine wpAny_Assign_Name (thn (he pins s σ H _ I h) fun v s1 ⟨y,H1,I1,r1,q1⟩=>?_) hs
  exact zor I1 hN hi hx r1 (fun s2 I2=>⟨_,H1,I2,q1⟩) hf
def tPar (i j:Nat) (ta:TA):TS:=fun D σ H=>ta σ H fun vs H1=>∃ v w,vs = [v,w]/\D.nx ((σ.set i (some v)).set j (some w)) H1
end
section
variable {X:Cx} {pos:Pos}
def zqs (c:TT) (tb:TS):TS:=fun D σ H=>∃ W:Nat->St->Hp->Prop,(∃ m,W m σ H)/\∀ m σ H,W m σ H ->
 c σ H fun b H1=>if b=true then ∃ N:St->Hp->Prop,(∀ σ' H',N σ' H'->∃ m',m' < m/\W m' σ' H')/\tb { D with nx:=N,ct:=N,bk:=D.nx } σ H1 else D.nx σ H1
theorem zot {c:Expr} {body:List Stmt} {tc:TT} {tb:TS} (hp:PassesOwn (model X.prog X.w) X.A X.env X.xe) (hc:PT X c tc) (hb:PSs X body tb):PS X (.While c body [] pos) (zqs tc tb):=by
 intro pins s σ H D I h
 obtain ⟨W,⟨m0,w0⟩,turn⟩:=h
 refine wpAny_While (codeAny_whileLoop (fun n s'=>∃ σ' H',Inv X pins σ' H' s'/\W n σ' H') ?_ m0 ⟨σ,H,I,w0⟩)
 rintro n s1 ⟨σ1,H1,I1,w1⟩
 refine wpAny_passesOwn hp (thn (hc pins s1 σ1 H1 _ I1 (turn n σ1 H1 w1)) fun b s2 ⟨H2,I2,q2⟩=>?_)
 cases b with
 | true =>
  obtain ⟨N,hN,q2⟩:=q2
  rw [if_pos rfl]
  refine wpAny_passesOwn hp (thn (hb pins s2 σ1 H2 _ I2 q2) fun f s3 q3=>?_)
  cases f with
  | next =>
   obtain ⟨σ3,H3,I3,n3⟩:=q3
   obtain ⟨m',hm,w3⟩:=hN σ3 H3 n3
   exact ⟨m',hm,σ3,H3,I3,w3⟩
  | cont =>
   obtain ⟨σ3,H3,I3,n3⟩:=q3
   obtain ⟨m',hm,w3⟩:=hN σ3 H3 n3
   exact ⟨m',hm,σ3,H3,I3,w3⟩
  | brk=>exact q3
  | ret v=>exact q3
 | false =>
  rw [if_neg Bool.false_ne_true]
  exact wpAny_execs_nil ⟨σ1,H2,I2,q2⟩
end
structure It where
 go:Nat->Hp->Prop
 yld:Nat->Hp->V->Hp->Prop
 stop:Nat->Hp->Prop
def FpOk (X:Cx) (pins:List (Addr×Obj)) (H:Hp) (b:Addr):Prop :=
 H b=none/\b≠X.env.locals/\b ∉ X.fs/\(b∈X.ex\/X.s₀.heap.objs.size<=b)/\(∀ x c,X.env.cells.lookup x=some c->c≠b)/\∀ p∈X.pn++pins,p.1≠b
theorem Inv.fpOk {X:Cx} {pins:List (Addr×Obj)} {σ:St} {H H':Hp} {s:Shared} {b:Addr} (I:Inv X pins σ H s) (hb:s.heap.objs.size<=b) (hn:H' b=none):FpOk X pins H' b:=by
 refine ⟨hn,Nat.ne_of_gt (Nat.lt_of_lt_of_le I.lt hb),I.nofs hb,.inr (Nat.le_trans I.sz hb),fun x c e z=>?_,fun p hp z=>?_⟩
 ·obtain ⟨v,q⟩:=I.cell x c e
  exact absurd (Nat.lt_of_lt_of_le q.lt (by rw [z]; exact hb)) (Nat.lt_irrefl _)
 ·exact absurd (Nat.lt_of_lt_of_le (Heap.lt_size (I.pin p hp).1) (by rw [z]; exact hb)) (Nat.lt_irrefl _)
structure Turn (P:Program) (w:World) (K:PySem.W.Frag) (tg:Expr) (J:It) (fp:List Addr) (it:Addr) (tn:Nat->Heap->Prop):Prop where
 mem:it∈fp
 obj:∀ i h,tn i h->∀ b∈fp,∃ o,h.get? b=some o/\∀ v,o.data≠.cell v
 keep:∀ i h h',tn i h->(∀ b∈fp,∀ o,h.get? b=some o->h'.get? b=some o)->tn i h'
 item:∀ (X:Cx),X.prog=P->X.w=w->X.K=K->X.calm=true->∀ (i:Nat) (pins:List (Addr×Obj)) (s:Shared) (σ:St) (H:Hp) (E:Value->Shared->Prop),Inv X pins σ H s->(∀ b∈fp,FpOk X pins H b)->tn i s.heap->J.go i H ->
  wpAny (model P w) X.A (pyNext (.ref it)) (fun r s1=>∃ u,r=some u /\
   wpAny (model P w) X.A (letOwnedTupleGo tg (.ref it) u) (fun _ s2=>∃ x H',Inv X pins σ H' s2/\RelV x u/\J.yld i H x H'/\tn (i+1) s2.heap/\∀ b∈fp,H' b=none) E s1) E s
 done:∀ (X:Cx),X.prog=P->X.w=w->X.K=K->X.calm=true->∀ (i:Nat) (pins:List (Addr×Obj)) (s:Shared) (σ:St) (H:Hp) (E:Value->Shared->Prop),Inv X pins σ H s->(∀ b∈fp,FpOk X pins H b)->tn i s.heap->J.stop i H ->
  wpAny (model P w) X.A (pyNext (.ref it)) (fun r s1=>r=none/\Inv X pins σ H s1) E s
 self:∀ (A:Around) (i:Nat) (s:Shared) (Q:Value->Shared->Prop) (E:Value->Shared->Prop),tn i s.heap->Q (.ref it) s->wpAny (model P w) A (pyIter (.ref it)) Q E s
abbrev TI:=St->Hp->(It->Hp->Prop)->Prop
def PIE (X:Cx) (pins:List (Addr×Obj)) (σ:St) (tg:Expr) (R:It->Hp->Prop) (itv:Value) (s2:Shared):Prop :=
 ∃ (it:Addr) (fp:List Addr) (tn:Nat->Heap->Prop) (J:It) (H':Hp),itv = .ref it/\Inv X pins σ H' s2/\Turn X.prog X.w X.K tg J fp it tn/\tn 0 s2.heap/\(∀ b∈fp,FpOk X pins H' b)/\R J H'
def PI (X:Cx) (tg iter:Expr) (wi:TI):Prop :=
 ∀ (pins:List (Addr×Obj)) (s:Shared) (σ:St) (H:Hp) (R:It->Hp->Prop),Inv X pins σ H s->wi σ H R ->
  wpAny (model X.prog X.w) X.A (eval iter X.env) (fun v s1=>wpAny (model X.prog X.w) X.A (pyIter v) (PIE X pins σ tg R) X.xe s1) X.xe s
theorem go_of {M:Model} {A:Around} {E:Value->Shared->Prop} {s:Shared} {tg:Expr} {it:Addr} {u:Value} {o:Obj} {n:String} {vs:Array Value} {Q:Unit->Shared->Prop} (ho:s.heap.get? it=some o) (hc:o.cls = .type n) (hd:o.data = .fields vs)
    (hn:["enumerate", "zip", "dict_itemiterator", "dict_reverseitemiterator", "odict_iterator", "itertools.zip_longest", "itertools.pairwise"].contains n=false) (hQ:Q () s):wpAny M A (letOwnedTupleGo tg (.ref it) u) Q E s:=by
  unfold letOwnedTupleGo
  cases tg <;> first
    | exact wpAny_pure hQ
    | (cases u <;> first
        | exact wpAny_pure hQ
        | (refine wpAny_bind (wpAny_load ho ?_)
           rw [hc,hd]
           show wpAny M A (if (["enumerate", "zip", "dict_itemiterator", "dict_reverseitemiterator", "odict_iterator", "itertools.zip_longest", "itertools.pairwise"].contains n && vs[0]? == some (rawInt _))=true then _ else _) Q E s
           rw [if_neg (by intro h; rw [hn,Bool.false_and] at h; cases h)]
           exact wpAny_pure hQ))
def Itl (K:PySem.W.Frag) (a:Addr):It :=
 ⟨fun i H=>∃ xs x,SqL K H a xs/\xs[i]? = some x,fun i H x H'=>H'=H/\∀ xs,SqL K H a xs->xs[i]? = some x,fun i H=>∃ xs,SqL K H a xs/\xs.length<=i⟩
def Itt (K:PySem.W.Frag) (a:Addr):It :=
 ⟨fun i H=>∃ xs x,SqT K H a xs/\xs[i]? = some x,fun i H x H'=>H'=H/\∀ xs,SqT K H a xs->xs[i]? = some x,fun i H=>∃ xs,SqT K H a xs/\xs.length<=i⟩
def Itr (lo:Int) (n:Nat):It:=⟨fun i _=>i<n,fun i H x H'=>H'=H/\x = .int (lo+i),fun i _=>n<=i⟩
theorem zqt {P:Program} {w:World} {K:PySem.W.Frag} {tg:Expr} (a it:Addr):Turn P w K tg (Itl K a) [it] it (fun i h=>h.IsListIter it a i) where
 mem:=by simp
 obj:=fun i h st b hb=>by
  have e:b=it:=by simpa using hb
  subst e
  obtain ⟨o,e,c,d⟩:=st
  exact ⟨o,e,fun v z=>by rw [d] at z; cases z⟩
 keep:=fun i h h' st k=>st.at fun o e=>k it (by simp) o e
 item:=by
  intro X hP hw hK hc i pins s σ H E I hf st hg
  subst hP hw hK
  obtain ⟨xs,x,hq,hx⟩:=hg
  obtain ⟨its,rv,p,hz⟩:=I.list hq
  obtain ⟨u,hu,ru⟩:=rv.get hx
  obtain ⟨f0,f1,f2,f3,f4,f5⟩:=hf it (by simp)
  refine wpAny_pyNext_list_item st p.isList (x:=u) (by simpa using hu) fun h' st' sb=>?_
  have I1:Inv X pins σ H { s with heap:=h' }:=I.turned (t':=s.toks) (fun b o hb e=>(sb.2 b hb).trans e) f0 f1 f3 f4 f5
  obtain ⟨o,e,c,d⟩:=id st'
  exact ⟨u,rfl,go_of (s:={ s with heap:=h' }) e c d (by decide) ⟨x,H,I1,ru,⟨rfl,fun ys hy=>by rw [I.list_inj hy hq]; exact hx⟩,st',fun b hb=>(hf b hb).1⟩⟩
 done:=by
  intro X hP hw hK hc i pins s σ H E I hf st hg
  subst hP hw hK
  obtain ⟨xs,hq,hx⟩:=hg
  obtain ⟨its,rv,p,hz⟩:=I.list hq
  obtain ⟨f0,f1,f2,f3,f4,f5⟩:=hf it (by simp)
  have hl:=rv.length
  exact wpAny_pyNext_list_end (I.ok.hd hc) st p.isList (by simp; omega) fun h' eb=>⟨rfl,I.turned (t':=s.toks) (fun b o hb e=>eb b o hb e) f0 f1 f3 f4 f5⟩
 self:=fun _ _ _ _ _ st h=>wpAny_pyIter_listiter st h
theorem zpx {P:Program} {w:World} {K:PySem.W.Frag} {tg:Expr} (it:Addr) (lo:Int) (n:Nat):Turn P w K tg (Itr lo n) [it] it (fun i h=>IsRangeIter h it (lo+(i:Nat)*1) ((n:Int)-(i:Nat)) 1) where
 mem:=by simp
 obj:=fun i h st b hb=>by
  have e:b=it:=by simpa using hb
  subst e
  exact ⟨_,st,fun v z=>by
   have z':Data.fields _=Data.cell v:=z
   cases z'⟩
 keep:=fun i h h' st k=>k it (by simp) _ st
 item:=by
  intro X hP hw hK hc i pins s σ H E I hf st hg
  subst hP hw hK
  obtain ⟨f0,f1,f2,f3,f4,f5⟩:=hf it (by simp)
  have W:=Walks.range (prog:=X.prog) (w:=X.w) (I.ok.hd hc) it lo 1 n
  refine W.item i s _ _ hg st fun v h' tk hv st' kk=>?_
  obtain ⟨t,rfl⟩:=hv
  have I1:Inv X pins σ H { s with heap:=h',toks:=tk }:=I.turned (fun b o hb e=>kk b o (by simpa using hb) e) f0 f1 f3 f4 f5
  refine ⟨_,rfl,go_of (s:={ s with heap:=h',toks:=tk }) (n := "range_iterator") st' rfl rfl (by decide) ⟨.int (lo+i),H,I1,⟨t,?_⟩,⟨rfl,rfl⟩,st',fun b hb=>(hf b hb).1⟩⟩
  rw [Int.mul_one]
 done:=by
  intro X hP hw hK hc i pins s σ H E I hf st hg
  subst hP hw hK
  obtain ⟨f0,f1,f2,f3,f4,f5⟩:=hf it (by simp)
  exact wpAny_pyNext_range_end (I.ok.hd hc) st (by have:n<=i:=hg; omega) fun h' eb=>⟨rfl,I.turned (t':=s.toks) (fun b o hb e=>eb b o hb e) f0 f1 f3 f4 f5⟩
 self:=fun _ _ _ _ _ st h=>wpAny_pyIter_rangeiter st h
end L2
namespace L2
open PySem PySem.Spec PyProof.Rows
section
variable {X:Cx} {tg:Expr}
def iList (K:PySem.W.Frag) (tl:TE):TI:=fun σ H R=>tl σ H fun x H1=>∃ a,x = .ref a/\(∃ xs,SqL K H1 a xs)/\R (Itl K a) H1
def iTup (K:PySem.W.Frag) (tl:TE):TI:=fun σ H R=>tl σ H fun x H1=>∃ a,x = .ref a/\(∃ xs,SqT K H1 a xs)/\R (Itt K a) H1
theorem zvg {l:Expr} {tl:TE} (hl:PE X l tl):PI X tg l (iList X.K tl):=by
 intro pins s σ H R I h
 refine thn (hl pins s σ H _ I h) fun v s1 ⟨x,H1,I1,r1,q1⟩=>?_
 obtain ⟨a,e,⟨xs,hq⟩,q⟩:=q1
 subst e
 cases r1
 obtain ⟨its,rv,p,hz⟩:=I1.list hq
 refine wpAny_pyIter_list p.isList ?_
 refine ⟨s1.heap.objs.size,[s1.heap.objs.size],_,_,H1,rfl,I1.kept (t':=s1.toks) fun b o e=>Heap.get?_push_of_some _ e,zqt a _,⟨_,Heap.get?_push_size _ rfl,rfl,rfl⟩,fun b hb=>?_,q⟩
 have e:b=s1.heap.objs.size:=by simpa using hb
 subst e
 exact I1.fpOk (Nat.le_refl _) (I1.hok.fresh (Nat.le_refl _))
theorem ztb {pins:List (Addr×Obj)} {σ:St} {H:Hp} {s:Shared} {R:It->Hp->Prop} {E:Value->Shared->Prop} {lo hi:Int} {t u v:Tok} {tk:Nat} (I:Inv X pins σ H s) (h1:-(2 ^ 62)<=lo) (h2:lo<2 ^ 62) (h3:-(2 ^ 62)<=hi) (h4:hi<2 ^ 62)
    (q:R (Itr lo (hi-lo).toNat) H):wpAny (model X.prog X.w) X.A (pyIter (.ref s.heap.objs.size)) (PIE X pins σ tg R) E { s with heap:=s.heap.push { cls:=.type "range", data:=.fields #[.int lo t,.int hi u,.int 1 v] },toks:=tk }:=by
  refine wpAny_pyIter_range (IsRange.new ..) (small_one h1 h2 h3 h4) ?_
  have I1:Inv X pins σ H { s with heap:=s.heap.push { cls:=.type "range", data:=.fields #[.int lo t,.int hi u,.int 1 v] },toks:=tk }:=I.kept fun b o e=>Heap.get?_push_of_some _ e
  refine ⟨(s.heap.push { cls:=.type "range", data:=.fields #[.int lo t,.int hi u,.int 1 v] }).objs.size,[(s.heap.push { cls:=.type "range", data:=.fields #[.int lo t,.int hi u,.int 1 v] }).objs.size],_,_,H,rfl,
    I1.kept (t':=tk) fun b o e=>Heap.get?_push_of_some _ e,zpx _ lo (hi-lo).toNat,?_,fun b hb=>?_,q⟩
  · have e1:lo+((0:Nat):Int)*1=lo:=by simp
    have e2:(((hi-lo).toNat:Nat):Int)-((0:Nat):Int)=Builtin.Range.rangeSize lo hi 1:=by rw [rangeSize_one]; split <;> omega
    show IsRangeIter _ _ (lo+((0:Nat):Int)*1) ((((hi-lo).toNat:Nat):Int)-((0:Nat):Int)) 1
    rw [e1,e2]
    exact Heap.get?_push_size _ rfl
  · have e:b=(s.heap.push { cls:=.type "range", data:=.fields #[.int lo t,.int hi u,.int 1 v] }).objs.size:=by simpa using hb
    subst e
    exact I1.fpOk (Nat.le_refl _) (I1.hok.fresh (Nat.le_refl _))
def iRng1 (ta:TA):TI:=fun σ H R=>ta σ H fun vs H1=>∃ j:Int,vs = [.int j]/\-(2 ^ 62)<=j/\j<2 ^ 62/\R (Itr 0 j.toNat) H1
def iRng2 (ta:TA):TI:=fun σ H R=>ta σ H fun vs H1=>∃ i j:Int,vs = [.int i,.int j]/\(-(2 ^ 62)<=i/\i<2 ^ 62/\-(2 ^ 62)<=j/\j<2 ^ 62)/\R (Itr i (j-i).toNat) H1
theorem zqu {a:Expr} {ta:TA} {p pos:Pos} (hg:Gl X "range") (hm:X.mg "range" = none) (ha:PA X [a] ta) (hs:starEach [a] X.env = [(false,eval a X.env)]:=by rfl):PI X tg (.Call (.Name "range" p) [a] [] pos) (iRng1 ta):=by
 intro pins s σ H R I h
 refine Call_ (zos I hg hm boot_range (PyProof.Rows.callWith_type1 (thn (ha pos pins s σ H _ I h) fun us s1 ⟨vs,H1,I1,r1,q1⟩=>?_) hs rfl))
 obtain ⟨j,e,q1,q2,q⟩:=q1
 subst e
 cases r1 with
 | cons r rr =>
  cases rr
  obtain ⟨t,rfl⟩:=r
  exact call_range_1 (ztb I1 (by omega) (by omega) q1 q2 (by simpa using q))
def tFor (wi:TI) (g:TG) (tb:TS):TS:=fun D σ H=>wi σ H fun J H1=>∃ W:Nat->Nat->St->Hp->Prop,(∃ m,W 0 m σ H1)/\∀ i m σ H,W i m σ H ->
 (J.stop i H/\D.nx σ H)\/(J.go i H/\∃ N:St->Hp->Prop,(∀ σ' H',N σ' H'->∃ m',m' < m/\W (i+1) m' σ' H')/\∀ x H',J.yld i H x H'->g x σ H' fun σ2 H2=>tb { D with nx:=N,ct:=N,bk:=D.nx } σ2 H2)
def zik (fp:List Addr) (h:Heap):List (Addr×Obj):=fp.filterMap fun b=>(h.get? b).map fun o=>(b,o)
theorem zdv {fp:List Addr} {h:Heap} {b:Addr} {o:Obj} (hb:b∈fp) (e:h.get? b=some o):(b,o)∈zik fp h:=List.mem_filterMap.mpr ⟨b,hb,by rw [e]; rfl⟩
theorem zqv {fp:List Addr} {h:Heap} {p:Addr×Obj} (hp:p∈zik fp h):p.1∈fp/\h.get? p.1=some p.2:=by
 obtain ⟨b,hb,e⟩:=List.mem_filterMap.mp hp
 cases q:h.get? b with
 | none=>rw [q] at e; cases e
 | some o =>
  rw [q] at e
  have e':(b,o)=p:=Option.some.inj e
  subst e'
  exact ⟨hb,q⟩
theorem Inv.pinned {pins:List (Addr×Obj)} {σ:St} {H:Hp} {s:Shared} {fp:List Addr} (I:Inv X pins σ H s) (hf:∀ b∈fp,FpOk X pins H b) (ho:∀ b∈fp,∃ o,s.heap.get? b=some o/\∀ v,o.data≠.cell v):Inv X (pins++zik fp s.heap) σ H s :=
 I.pins_of fun p hp=>(List.mem_append.mp hp).elim (fun z=>I.pin p (List.mem_append_right _ z)) fun z=>by
  obtain ⟨hb,e⟩:=zqv z
  obtain ⟨f0,f1,f2,_⟩:=hf p.1 hb
  obtain ⟨o,e',d⟩:=ho p.1 hb
  rw [e] at e'; cases e'
  exact ⟨e,f0,f1,f2,d⟩
theorem Inv.unpinned {pins pl:List (Addr×Obj)} {σ:St} {H:Hp} {s:Shared} (I:Inv X (pins++pl) σ H s):Inv X pins σ H s:=I.pins_of fun p hp=>I.pin p (List.mem_append_right _ (List.mem_append_left _ hp))
theorem zqw {iter:Expr} {body:List Stmt} {wi:TI} {g:TG} {tb:TS} {pos:Pos} (hp:PassesOwn (model X.prog X.w) X.A X.env X.xe) (hc:X.calm=true) (hi:PI X tg iter wi) (hg:PG X tg g) (hb:PSs X body tb)
    (hs:∀ x,foldedSetIterable iter X.env x=pure x:=by intro _; rfl):PS X (.For tg iter body [] pos) (tFor wi g tb):=by
  intro pins s σ H D I h
  refine wpAny_For (thn (hi pins s σ H _ I h) fun v s1 h1=>thn h1 fun itv s2 h2=>?_) hs
  obtain ⟨it,fp,tn,J,H2,e,I2,T,st2,f2,W,⟨m0,w0⟩,turn⟩:=h2
  subst e
  have stat:∀ {H':Hp},(∀ b∈fp,H' b=none)->∀ b∈fp,FpOk X pins H' b:=fun hn b hb=>⟨hn b hb,(f2 b hb).2⟩
  refine codeAny_forLoop_any (fun n s'=>∃ i σ' H',Inv X pins σ' H' s'/\tn i s'.heap/\(∀ b∈fp,H' b=none)/\W i n σ' H') ?_ m0 ⟨0,σ,H2,I2,st2,fun b hb=>(f2 b hb).1,w0⟩
  rintro n s3 ⟨i,σ3,H3,I3,st3,fr3,w3⟩
  rcases turn i n σ3 H3 w3 with ⟨stop,qn⟩ | ⟨go,N,hN,step⟩
  · refine wpAny_passesOwn hp (thn (T.done X rfl rfl rfl hc i pins s3 σ3 H3 X.xe I3 (stat fr3) st3 stop) fun r s4 ⟨hr,I4⟩=>?_)
    subst hr
    exact wpAny_execs_nil ⟨σ3,H3,I4,qn⟩
  · refine wpAny_passesOwn hp (thn (T.item X rfl rfl rfl hc i pins s3 σ3 H3 X.xe I3 (stat fr3) st3 go) fun r s4 ⟨u,hr,h4⟩=>?_)
    subst hr
    refine wpAny_passesOwn hp (thn h4 fun _ s5 ⟨x,H5,I5,r5,y5,st5,fr5⟩=>?_)
    have I5':=I5.pinned (stat fr5) (T.obj _ _ st5)
    refine wpAny_passesOwn hp (thn (hg _ s5 σ3 H5 x u _ I5' r5 (step x H5 y5)) fun _ s6 ⟨σ6,H6,I6,q6⟩=>?_)
    refine wpAny_passesOwn hp (thn (hb _ s6 σ6 H6 _ I6 q6) fun f s7 q7=>?_)
    have again:∀ {σ7:St} {H7:Hp},Inv X (pins++zik fp s5.heap) σ7 H7 s7->N σ7 H7->∃ m,m<n/\∃ i σ' H',Inv X pins σ' H' s7/\tn i s7.heap/\(∀ b∈fp,H' b=none)/\W i m σ' H':=fun {σ7 H7} I7 n7=>by
      obtain ⟨m',hm,w7⟩:=hN σ7 H7 n7
      refine ⟨m',hm,i+1,σ7,H7,I7.unpinned,T.keep _ _ _ st5 fun b hb o e=>(I7.pin (b,o) (List.mem_append_right _ (List.mem_append_right _ (zdv hb e)))).1,fun b hb=>?_,w7⟩
      obtain ⟨o,e,d⟩:=T.obj _ _ st5 b hb
      exact (I7.pin (b,o) (List.mem_append_right _ (List.mem_append_right _ (zdv hb e)))).2.1
    cases f with
    | next=>obtain ⟨σ7,H7,I7,n7⟩:=q7; exact again I7 n7
    | cont=>obtain ⟨σ7,H7,I7,n7⟩:=q7; exact again I7 n7
    | brk=>obtain ⟨σ7,H7,I7,q7⟩:=q7; exact ⟨σ7,H7,I7.unpinned,q7⟩
    | ret v=>obtain ⟨x7,σ7,H7,I7,r7,q7⟩:=q7; exact ⟨x7,σ7,H7,I7.unpinned,r7,q7⟩
end
theorem zou {K:PySem.W.Frag} {a:Addr} {xs:List V} {g:TG} {tb:TS} {D:Ends} {σ:St} {H:Hp} (Pv:Nat->St->Hp->Prop) (h0:Pv 0 σ H) (hl:∀ i σ H,i<=xs.length->Pv i σ H->SqL K H a xs)
    (hs:∀ i x σ H,xs[i]? = some x->Pv i σ H->g x σ H fun σ2 H2=>tb { D with nx:=Pv (i+1),ct:=Pv (i+1),bk:=D.nx } σ2 H2) (hd:∀ σ H,Pv xs.length σ H->D.nx σ H) :
    ∃ W:Nat->Nat->St->Hp->Prop,(∃ m,W 0 m σ H)/\∀ i m σ H,W i m σ H ->
      ((Itl K a).stop i H/\D.nx σ H)\/((Itl K a).go i H/\∃ N:St->Hp->Prop,(∀ σ' H',N σ' H'->∃ m',m' < m/\W (i+1) m' σ' H')/\∀ x H',(Itl K a).yld i H x H'->g x σ H' fun σ2 H2=>tb { D with nx:=N,ct:=N,bk:=D.nx } σ2 H2):=by
  refine ⟨fun i m σ H=>m=xs.length-i/\i<=xs.length/\Pv i σ H,⟨xs.length,by simp,Nat.zero_le _,h0⟩,?_⟩
  rintro i m σ H ⟨rfl,hi,p⟩
  have q:=hl i σ H hi p
  by_cases hlt:i<xs.length
  · refine .inr ⟨⟨xs,xs[i],q,by simp [hlt]⟩,Pv (i+1),fun σ' H' p'=>⟨xs.length-(i+1),by omega,rfl,hlt,p'⟩,fun x H' y=>?_⟩
    obtain ⟨e,y⟩:=y
    subst e
    exact hs i x σ _ (y xs q) p
  · have e:i=xs.length:=by omega
    subst e
    exact .inl ⟨⟨xs,q,Nat.le_refl _⟩,hd σ H p⟩
theorem zqx {lo:Int} {n:Nat} {g:TG} {tb:TS} {D:Ends} {σ:St} {H:Hp} (Pv:Nat->St->Hp->Prop) (h0:Pv 0 σ H)
    (hs:∀ i σ H,i<n->Pv i σ H->g (.int (lo+i)) σ H fun σ2 H2=>tb { D with nx:=Pv (i+1),ct:=Pv (i+1),bk:=D.nx } σ2 H2) (hd:∀ σ H,Pv n σ H->D.nx σ H) :
    ∃ W:Nat->Nat->St->Hp->Prop,(∃ m,W 0 m σ H)/\∀ i m σ H,W i m σ H ->
      ((Itr lo n).stop i H/\D.nx σ H)\/((Itr lo n).go i H/\∃ N:St->Hp->Prop,(∀ σ' H',N σ' H'->∃ m',m' < m/\W (i+1) m' σ' H')/\∀ x H',(Itr lo n).yld i H x H'->g x σ H' fun σ2 H2=>tb { D with nx:=N,ct:=N,bk:=D.nx } σ2 H2):=by
  refine ⟨fun i m σ H=>m=n-i/\i<=n/\Pv i σ H,⟨n,by simp,Nat.zero_le _,h0⟩,?_⟩
  rintro i m σ H ⟨rfl,hi,p⟩
  by_cases hlt:i<n
  · refine .inr ⟨hlt,Pv (i+1),fun σ' H' p'=>⟨n-(i+1),by omega,rfl,hlt,p'⟩,fun x H' y=>?_⟩
    obtain ⟨e,y⟩:=y
    subst e y
    exact hs i σ _ hlt p
  · have e:i=n:=by omega
    subst e
    exact .inl ⟨Nat.le_refl _,hd σ H p⟩
end L2
namespace L2
open PySem PySem.Spec PyProof.Rows
abbrev R2:=V->V->Hp->VK->Prop
def OpR (X:Cx) (f:Value->Value->Sem Value) (r:R2):Prop :=
 ∀ (pins:List (Addr×Obj)) (s:Shared) (σ:St) (H:Hp) (x y:V) (v u:Value) (Q:VK),Inv X pins σ H s->RelV x v->RelV y u->r x y H Q ->
  wpAny (model X.prog X.w) X.A (f v u) (EP X pins σ Q) X.xe s
def UnR (X:Cx) (f:Value->Sem Value) (r:V->Hp->VK->Prop):Prop :=
 ∀ (pins:List (Addr×Obj)) (s:Shared) (σ:St) (H:Hp) (x:V) (v:Value) (Q:VK),Inv X pins σ H s->RelV x v->r x H Q ->
  wpAny (model X.prog X.w) X.A (f v) (EP X pins σ Q) X.xe s
def CallR (X:Cx) (f:Value) (r:List V->Hp->VK->Prop):Prop :=
 ∀ (pins:List (Addr×Obj)) (s:Shared) (σ:St) (H:Hp) (xs:List V) (us:List Value) (Q:VK),Inv X pins σ H s->Vals xs us->r xs H Q ->
  wpAny (model X.prog X.w) X.A (call f us) (EP X pins σ Q) X.xe s
def tOp (r:R2) (ta tb:TE):TE:=fun σ H Q=>ta σ H fun x H1=>tb σ H1 fun y H2=>r x y H2 Q
def tUn (r:V->Hp->VK->Prop) (ta:TE):TE:=fun σ H Q=>ta σ H fun x H1=>r x H1 Q
def rI (C:Int->Int->Prop) (g:Int->Int->V):R2:=fun x y H Q=>∃ i j,x = .int i/\y = .int j/\C i j/\Q (g i j) H
def rI0 (g:Int->Int->V):R2:=fun x y H Q=>∃ i j,x = .int i/\y = .int j/\Q (g i j) H
def rU (g:Int->V):V->Hp->VK->Prop:=fun x H Q=>∃ i,x = .int i/\Q (g i) H
section
variable {X:Cx} {a b c:Expr} {ta tb tc:TE} {pos:Pos}
theorem binT (ha:PE X a ta) (hb:PE X b tb) {pins:List (Addr×Obj)} {s:Shared} {σ:St} {H:Hp} {R:V->V->Hp->Prop} (I:Inv X pins σ H s)
    (h:ta σ H fun x H1=>tb σ H1 fun y H2=>R x y H2) {Q:Value->Shared->Prop} {f:Value->Value->Sem Value}
    (hf:∀ v u s2 x y H2,Inv X pins σ H2 s2->RelV x v->RelV y u->R x y H2->wpAny (model X.prog X.w) X.A (f v u) Q X.xe s2) :
    wpAny (model X.prog X.w) X.A (eval a X.env) (fun v s₁=>wpAny (model X.prog X.w) X.A (eval b X.env) (fun u s₂=>wpAny (model X.prog X.w) X.A (f v u) Q X.xe s₂) X.xe s₁) X.xe s:=by
  refine thn (ha pins s σ H _ I h) fun v s1 ⟨x,H1,I1,r1,q1⟩=>?_
  refine thn (hb pins s1 σ H1 _ I1 q1) fun u s2 ⟨y,H2,I2,r2,q2⟩=>?_
  exact hf v u s2 x y H2 I2 r1 r2 q2
theorem pe_op {op:Operator} {r:R2} (ho:OpR X (binaryOp op) r) (ha:PE X a ta) (hb:PE X b tb):PE X (.BinOp a op b pos) (tOp r ta tb):=by
 intro pins s σ H Q I h
 exact wpAny_BinOp (binT ha hb I h fun v u s2 x y H2 I2 rx ry q=>ho pins s2 σ H2 x y v u Q I2 rx ry q)
theorem pe_un {op:UnaryOp} {r:V->Hp->VK->Prop} (ho:UnR X (unaryOp op) r) (ha:PE X a ta):PE X (.UnaryOp op a pos) (tUn r ta):=by
 intro pins s σ H Q I h
 exact UnaryOp_ (thn (ha pins s σ H _ I h) fun v s1 ⟨x,H1,I1,r1,q1⟩=>ho pins s1 σ H1 x v Q I1 r1 q1)
theorem opI {f:Value->Value->Sem Value} {C:Int->Int->Prop} {g:Int->Int->Int}
    (rule:∀ (i j:Int) (t u:Tok) (s:Shared) (Q:Value->Shared->Prop) (E:Value->Shared->Prop),C i j->Q (.int (g i j) s.toks) { s with toks:=s.toks+1 }->wpAny (model X.prog X.w) X.A (f (.int i t) (.int j u)) Q E s) :
    OpR X f (rI C fun i j=>.int (g i j)):=by
  intro pins s σ H x y v u Q I rx ry h
  obtain ⟨i,j,rfl,rfl,hc,q⟩:=h
  obtain ⟨t,rfl⟩:=rx
  obtain ⟨t',rfl⟩:=ry
  exact rule i j t t' s _ _ hc ⟨.int (g i j),H,I.tok _,⟨_,rfl⟩,q⟩
theorem opI0 {f:Value->Value->Sem Value} {g:Int->Int->Int}
    (rule:∀ (i j:Int) (t u:Tok) (s:Shared) (Q:Value->Shared->Prop) (E:Value->Shared->Prop),Q (.int (g i j) s.toks) { s with toks:=s.toks+1 }->wpAny (model X.prog X.w) X.A (f (.int i t) (.int j u)) Q E s) :
    OpR X f (rI0 fun i j=>.int (g i j)):=by
  intro pins s σ H x y v u Q I rx ry h
  obtain ⟨i,j,rfl,rfl,q⟩:=h
  obtain ⟨t,rfl⟩:=rx
  obtain ⟨t',rfl⟩:=ry
  exact rule i j t t' s _ _ ⟨.int (g i j),H,I.tok _,⟨_,rfl⟩,q⟩
theorem opB0 {f:Value->Value->Sem Value} {g:Int->Int->Bool}
    (rule:∀ (i j:Int) (t u:Tok) (s:Shared) (Q:Value->Shared->Prop) (E:Value->Shared->Prop),Q (.bool (g i j)) s->wpAny (model X.prog X.w) X.A (f (.int i t) (.int j u)) Q E s) :
    OpR X f (rI0 fun i j=>.bl (g i j)):=by
  intro pins s σ H x y v u Q I rx ry h
  obtain ⟨i,j,rfl,rfl,q⟩:=h
  obtain ⟨t,rfl⟩:=rx
  obtain ⟨t',rfl⟩:=ry
  exact rule i j t t' s _ _ ⟨.bl (g i j),H,I,rfl,q⟩
def CPow (i j:Int):Prop:=0<=j/\j<=1000000/\i.natAbs<2 ^ 64
theorem zew:OpR X (binaryOp .Add) (rI0 fun i j=>.int (i+j)):=opI0 fun _ _ _ _ _ _ _ q=>add_int q
theorem zxh:OpR X (binaryOp .Sub) (rI0 fun i j=>.int (i-j)):=opI0 fun _ _ _ _ _ _ _ q=>sub_int q
theorem zde:OpR X (binaryOp .Mod) (rI (fun _ j=>0<j) fun i j=>.int (i % j)):=opI fun i j _ _ _ _ _ hc q=>by
 have h1:(0:Int)<j:=hc
 exact mod_int' (by omega) (by rw [Int.fmod_eq_emod_of_nonneg i (by omega)]; exact q)
theorem zun:OpR X (binaryOp .Pow) (rI CPow fun i j=>.int (i ^ j.toNat)):=opI fun _ _ _ _ _ _ _ hc q=>pow_int_small hc.1 hc.2.1 hc.2.2 q
theorem unI {f:Value->Sem Value} {g:Int->Int}
    (rule:∀ (i:Int) (t:Tok) (s:Shared) (Q:Value->Shared->Prop) (E:Value->Shared->Prop),Q (.int (g i) s.toks) { s with toks:=s.toks+1 }->wpAny (model X.prog X.w) X.A (f (.int i t)) Q E s) :
    UnR X f (rU fun i=>.int (g i)):=by
  intro pins s σ H x v Q I rx h
  obtain ⟨i,rfl,q⟩:=h
  obtain ⟨t,rfl⟩:=rx
  exact rule i t s _ _ ⟨.int (g i),H,I.tok _,⟨_,rfl⟩,q⟩
theorem zov:UnR X (unaryOp .USub) (rU fun i=>.int (-i)):=unI fun _ _ _ _ _ q=>neg_int q
end
def scal:V->V->Bool
 | .non,.non=>true | .non,.int _=>true | .int _,.non=>true | .non,.bl _=>true | .bl _,.non=>true | .non,.str _=>true | .str _,.non=>true
 | .int _,.int _=>true | .bl _,.bl _=>true | .str _,.str _=>true | .byt _,.byt _=>true
 | .int _,.str _=>true | .str _,.int _=>true | .bl _,.str _=>true | .str _,.bl _=>true
 | _,_=>false
def rEq:R2:=fun x y H Q=>scal x y=true/\Q (.bl (decide (x=y))) H
def rNe:R2:=fun x y H Q=>scal x y=true/\Q (.bl (!decide (x=y))) H
theorem zqy {i j:Int}:decide (V.int i=V.int j)=(i == j):=by
 rw [Bool.eq_iff_iff]
 simp
theorem zuo {i j:Bool}:decide (V.bl i=V.bl j)=(i == j):=by
 rw [Bool.eq_iff_iff]
 simp
theorem zqz {i j:Str}:decide (V.str i=V.str j)=(i == j):=by
 rw [Bool.eq_iff_iff]
 simp
theorem zra {i j:Array UInt8}:decide (V.byt i=V.byt j)=(i.toList == j.toList):=by
 rw [Bool.eq_iff_iff]
 cases i
 cases j
 simp
section
variable {X:Cx} {a b c:Expr} {ta tb tc:TE} {pos:Pos}
theorem zby {pins:List (Addr×Obj)} {σ:St} {H:Hp} {s:Shared} {Q:VK} {k k':Bool} (I:Inv X pins σ H s) (q:Q (.bl k) H) (e:k=k'):EP X pins σ Q (.bool k') s:=by
 subst e
 exact ⟨.bl k,H,I,rfl,q⟩
theorem op_eq:OpR X (compareOp .Eq) rEq:=by
 intro pins s σ H x y v u Q I rx ry h
 obtain ⟨hs,q⟩:=h
 cases x with
 | non =>
  cases rx
  cases y with
  | non=>cases ry; exact PySem.EqNone.eq_none_none (zby I q (by simp))
  | bl j=>cases ry; exact PySem.EqNone.eq_none_bool (zby I q (by simp))
  | int j=>obtain ⟨t',rfl⟩:=ry; exact PySem.EqNone.eq_none_int (zby I q (by simp))
  | str j=>obtain ⟨t',rfl⟩:=ry; exact PySem.EqNone.eq_none_str (zby I q (by simp))
  | _=>exact absurd (show false=true from hs) Bool.false_ne_true
 | bl i =>
  cases rx
  cases y with
  | non=>cases ry; exact PySem.EqNone.eq_bool_none (zby I q (by simp))
  | bl j=>cases ry; exact eq_bool (zby I q zuo)
  | str j=>obtain ⟨t',rfl⟩:=ry; exact PySem.EqMixed.eq_bool_str (zby I q (by simp))
  | _=>exact absurd (show false=true from hs) Bool.false_ne_true
 | int i =>
  obtain ⟨t,rfl⟩:=rx
  cases y with
  | non=>cases ry; exact PySem.EqNone.eq_int_none (zby I q (by simp))
  | int j=>obtain ⟨t',rfl⟩:=ry; exact eq_int (zby I q zqy)
  | str j=>obtain ⟨t',rfl⟩:=ry; exact PySem.EqMixed.eq_int_str (zby I q (by simp))
  | _=>exact absurd (show false=true from hs) Bool.false_ne_true
 | str i =>
  obtain ⟨t,rfl⟩:=rx
  cases y with
  | non=>cases ry; exact PySem.EqNone.eq_str_none (zby I q (by simp))
  | bl j=>cases ry; exact PySem.EqMixed.eq_str_bool (zby I q (by simp))
  | int j=>obtain ⟨t',rfl⟩:=ry; exact PySem.EqMixed.eq_str_int (zby I q (by simp))
  | str j=>obtain ⟨t',rfl⟩:=ry; exact eq_str (zby I q zqz)
  | _=>exact absurd (show false=true from hs) Bool.false_ne_true
 | byt i =>
  obtain ⟨t,rfl⟩:=rx
  cases y with
  | byt j=>obtain ⟨t',rfl⟩:=ry; exact PySem.W.eq_bytes (zby I q zra)
  | _=>exact absurd (show false=true from hs) Bool.false_ne_true
 | _=>cases y <;> exact absurd (show false=true from hs) Bool.false_ne_true
theorem op_ne:OpR X (compareOp .NotEq) rNe:=by
 intro pins s σ H x y v u Q I rx ry h
 obtain ⟨hs,q⟩:=h
 cases x with
 | non =>
  cases rx
  cases y with
  | non=>cases ry; exact PySem.EqNone.ne_none_none (zby I q (by simp))
  | bl j=>cases ry; exact PySem.EqNone.ne_none_bool (zby I q (by simp))
  | int j=>obtain ⟨t',rfl⟩:=ry; exact PySem.EqNone.ne_none_int (zby I q (by simp))
  | str j=>obtain ⟨t',rfl⟩:=ry; exact PySem.EqNone.ne_none_str (zby I q (by simp))
  | _=>exact absurd (show false=true from hs) Bool.false_ne_true
 | bl i =>
  cases rx
  cases y with
  | non=>cases ry; exact PySem.EqNone.ne_bool_none (zby I q (by simp))
  | bl j=>cases ry; exact ne_bool (zby I q (congrArg not zuo))
  | str j=>obtain ⟨t',rfl⟩:=ry; exact PySem.EqMixed.ne_bool_str (zby I q (by simp))
  | _=>exact absurd (show false=true from hs) Bool.false_ne_true
 | int i =>
  obtain ⟨t,rfl⟩:=rx
  cases y with
  | non=>cases ry; exact PySem.EqNone.ne_int_none (zby I q (by simp))
  | int j=>obtain ⟨t',rfl⟩:=ry; exact ne_int (zby I q (congrArg not zqy))
  | str j=>obtain ⟨t',rfl⟩:=ry; exact PySem.EqMixed.ne_int_str (zby I q (by simp))
  | _=>exact absurd (show false=true from hs) Bool.false_ne_true
 | str i =>
  obtain ⟨t,rfl⟩:=rx
  cases y with
  | non=>cases ry; exact PySem.EqNone.ne_str_none (zby I q (by simp))
  | bl j=>cases ry; exact PySem.EqMixed.ne_str_bool (zby I q (by simp))
  | int j=>obtain ⟨t',rfl⟩:=ry; exact PySem.EqMixed.ne_str_int (zby I q (by simp))
  | str j=>obtain ⟨t',rfl⟩:=ry; exact ne_str (zby I q (congrArg not zqz))
  | _=>exact absurd (show false=true from hs) Bool.false_ne_true
 | byt i =>
  obtain ⟨t,rfl⟩:=rx
  cases y with
  | byt j=>obtain ⟨t',rfl⟩:=ry; exact PySem.W.ne_bytes (zby I q (congrArg not zra))
  | _=>exact absurd (show false=true from hs) Bool.false_ne_true
 | _=>cases y <;> exact absurd (show false=true from hs) Bool.false_ne_true
theorem op_lt:OpR X (compareOp .Lt) (rI0 fun i j=>.bl (decide (i<j))):=opB0 fun _ _ _ _ _ _ _ q=>lt_int q
theorem op_le:OpR X (compareOp .LtE) (rI0 fun i j=>.bl (decide (i<=j))):=opB0 fun _ _ _ _ _ _ _ q=>le_int q
theorem op_gt:OpR X (compareOp .Gt) (rI0 fun i j=>.bl (decide (j<i))):=opB0 fun _ _ _ _ _ _ _ q=>gt_int q
theorem zil:OpR X (compareOp .Is) (fun x y H Q=>y = .non/\Q (.bl (decide (x = .non))) H):=by
 intro pins s σ H x y v u Q I rx ry h
 obtain ⟨rfl,q⟩:=h
 cases ry
 refine is_none_gen (zby I q ?_)
 cases x <;> first
  | (cases rx; rfl)
  | (obtain ⟨t,rfl⟩:=rx; rfl)
theorem zim:OpR X (compareOp .IsNot) (fun x y H Q=>y = .non/\Q (.bl (!decide (x = .non))) H):=by
 intro pins s σ H x y v u Q I rx ry h
 obtain ⟨rfl,q⟩:=h
 cases ry
 refine isnot_none_gen (zby I q ?_)
 cases x <;> first
  | (cases rx; rfl)
  | (obtain ⟨t,rfl⟩:=rx; rfl)
theorem zba (b:Expr) {op:CmpOp} (h:op≠.In:=by decide) (h2:op≠.NotIn:=by decide):behindInMarks op b=false:=by
 have e1:(op == CmpOp.In)=false:=by cases op <;> first | rfl | exact absurd rfl h
 have e2:(op == CmpOp.NotIn)=false:=by cases op <;> first | rfl | exact absurd rfl h2
 cases b <;> simp [behindInMarks,e1,e2]
theorem zep {op:CmpOp} {r:R2} (ho:OpR X (compareOp op) r) (ha:PE X a ta) (hb:PE X b tb) (hm:behindInMarks op b=false):PE X (.Compare a [op] [b] pos) (tOp r ta tb):=by
 intro pins s σ H Q I h
 exact wpAny_Compare1 (binT ha hb I h fun v u s2 x y H2 I2 rx ry q=>ho pins s2 σ H2 x y v u Q I2 rx ry q) hm
def tTest (t:TE):TT:=fun σ H Q=>t σ H fun x H'=>∃ k,x = .bl k/\Q k H'
theorem zau {op:CmpOp} {r:R2} (ho:OpR X (compareOp op) r) (ha:PE X a ta) (hb:PE X b tb) (hm:behindInMarks op b=false):PT X (.Compare a [op] [b] pos) (tTest (tOp r ta tb)):=by
 intro pins s σ H Q I h
 refine wpAny_isTrue_Compare1 (thn (ha pins s σ H _ I h) fun v s1 ⟨x,H1,I1,r1,q1⟩=>thn (hb pins s1 σ H1 _ I1 q1) fun u s2 ⟨y,H2,I2,r2,q2⟩ =>
  thn (ho pins s2 σ H2 x y v u _ I2 r1 r2 q2) fun c s3 ⟨z,H3,I3,r3,k,e,q3⟩=>?_) hm
 subst e
 cases r3
 exact wpAny_truthy_bool ⟨H3,I3,q3⟩
def tChain (r r':R2) (ta tb tc:TE):TE:=fun σ H Q=>ta σ H fun x H1=>tb σ H1 fun y H2=>r x y H2 fun z H3=>∃ k,z = .bl k /\
 (if k=true then tc σ H3 fun w' H4=>r' y w' H4 Q else Q (.bl false) H3)
theorem ztc {op op':CmpOp} {r r':R2} (ho:OpR X (compareOp op) r) (ho':OpR X (compareOp op') r') (ha:PE X a ta) (hb:PE X b tb) (hc:PE X c tc)
    (hm:lastMarks [op,op'] [b,c] = false:=by with_unfolding_all rfl):PE X (.Compare a [op,op'] [b,c] pos) (tChain r r' ta tb tc):=by
  intro pins s σ H Q I h
  refine Compare_chain (thn (ha pins s σ H _ I h) fun v s1 ⟨x,H1,I1,r1,q1⟩=>chain_link (thn (hb pins s1 σ H1 _ I1 q1) fun u s2 ⟨y,H2,I2,r2,q2⟩ =>
    thn (ho pins s2 σ H2 x y v u _ I2 r1 r2 q2) fun d s3 ⟨z,H3,I3,r3,k,e,q3⟩=>?_)) hm
  subst e
  cases r3
  refine wpAny_truthy_bool ?_
  cases k with
  | false=>exact ite_ff ⟨.bl false,H3,I3,rfl,q3⟩
  | true=>exact ite_tt (chain_last (thn (hc pins s3 σ H3 _ I3 q3) fun w' s4 ⟨z',H4,I4,r4,q4⟩=>ho' pins s4 σ H4 y z' u w' Q I4 r2 r4 q4))
theorem zku {op op':CmpOp} {r r':R2} (ho:OpR X (compareOp op) r) (ho':OpR X (compareOp op') r') (ha:PE X a ta) (hb:PE X b tb) (hc:PE X c tc)
    (hm:lastMarks [op,op'] [b,c] = false:=by with_unfolding_all rfl):PT X (.Compare a [op,op'] [b,c] pos) (tTest (tChain r r' ta tb tc)):=by
  intro pins s σ H Q I h
  refine isTrue_chain (thn (ha pins s σ H _ I h) fun v s1 ⟨x,H1,I1,r1,q1⟩=>test_link (thn (hb pins s1 σ H1 _ I1 q1) fun u s2 ⟨y,H2,I2,r2,q2⟩ =>
    thn (ho pins s2 σ H2 x y v u _ I2 r1 r2 q2) fun d s3 ⟨z,H3,I3,r3,k,e,q3⟩=>?_)) hm
  subst e
  cases r3
  refine wpAny_truthy_bool ?_
  cases k with
  | false =>
    obtain ⟨k',e',q'⟩:=q3
    cases e'
    exact ite_ff ⟨H3,I3,q'⟩
  | true =>
    refine ite_tt (test_last (thn (hc pins s3 σ H3 _ I3 q3) fun w' s4 ⟨z',H4,I4,r4,q4⟩=>thn (ho' pins s4 σ H4 y z' u w' _ I4 r2 r4 q4) fun d' s5 ⟨z2,H5,I5,r5,k2,e2,q5⟩=>?_))
    subst e2
    cases r5
    exact wpAny_truthy_bool ⟨H5,I5,q5⟩
def TruV (K:PySem.W.Frag) (x:V) (H:Hp) (k:Bool):Prop :=
 match x with
 | .non=>k=false
 | .bl b=>k=b
 | .int i=>k=(i != 0)
 | .str y=>y.length<=sizeLine/\k=((y.length:Int) != 0)
 | .byt y=>y.size<=sizeLine/\k=((y.size:Int) != 0)
 | .ref p=>(∃ xs,SqL K H p xs/\k = !xs.isEmpty)\/(∃ xs,SqT K H p xs/\k = !xs.isEmpty)\/∃ kvs,H p=some (.dK kvs)/\k = !kvs.isEmpty
 | _=>False
theorem zow:(sizeLine:Nat)<2 ^ 63:=by rw [sizeLine_eq]; decide
theorem zkj:OpR X (binaryOp .Add) (fun x y H Q=>∃ i j,x = .str i/\y = .str j/\i.length+j.length<=sizeLine/\Q (.str (i++j)) H):=by
 intro pins s σ H x y v u Q I rx ry h
 obtain ⟨i,j,rfl,rfl,hz,q⟩:=h
 obtain ⟨t,rfl⟩:=rx
 obtain ⟨t',rfl⟩:=ry
 exact add_str (fun t' tk=>⟨.str (i++j),H,I.tok _,⟨_,rfl⟩,q⟩) hz
theorem vals1 {x:V} {us:List Value} (r:Vals [x] us):∃ u,us = [u]/\RelV x u:=by
 cases r with
 | cons r1 r2=>cases r2; exact ⟨_,rfl,r1⟩
theorem vals2 {x y:V} {us:List Value} (r:Vals [x,y] us):∃ u w',us = [u,w']/\RelV x u/\RelV y w':=by
 cases r with
 | cons r1 r2 =>
  cases r2 with
  | cons r3 r4=>cases r4; exact ⟨_,_,rfl,r1,r3⟩
theorem zox:CallR X (.builtin "abs") (fun xs H Q=>∃ i,xs = [.int i]/\Q (.int (if i<0 then -i else i)) H):=by
 intro pins s σ H xs us Q I r h
 obtain ⟨i,rfl,q⟩:=h
 obtain ⟨u,rfl,t,rfl⟩:=vals1 r
 exact call_abs_int fun u tk=>⟨.int (if i<0 then -i else i),H,I.tok _,⟨_,rfl⟩,q⟩
theorem zrb (hc:X.calm=true):CallR X (.builtin "min") (fun xs H Q=>∃ i j,xs = [.int i,.int j]/\Q (.int (if j<i then j else i)) H):=by
 intro pins s σ H xs us Q I r h
 obtain ⟨i,j,rfl,q⟩:=h
 obtain ⟨u,w',rfl,⟨t,rfl⟩,⟨t',rfl⟩⟩:=vals2 r
 refine min_two_ints (I.ok.hd hc) fun h' tk k=>⟨_,H,I.kept k,?_,q⟩
 by_cases hj:j<i
 ·rw [if_pos hj,if_pos hj]; exact ⟨_,rfl⟩
 ·rw [if_neg hj,if_neg hj]; exact ⟨_,rfl⟩
end
end L2
namespace L2
open PySem PySem.Spec PyProof.Rows
structure ObjM (h:Heap) (x dx C:Addr) (mA:Str->Option Value):Prop where
 obj:h.get? x=some (PySem.W.instObj C dx)
 ns:h.Ns1 dx mA
 ne:dx≠x
theorem zrc {h:Heap} {dx:Addr} {mA:Str->Option Value} (n:h.Ns1 dx mA):∃ od,h.get? dx=some od/\∀ name,PySem.W.lookIn name od=some (mA name):=by
 obtain ⟨o,es,ep,ho,hd,hk,_,hm⟩:=n
 refine ⟨o,ho,fun name=>?_⟩
 have e:=hm name
 unfold nsFind findBy at e
 rw [<- Array.find?_toList] at e
 unfold PySem.W.lookIn
 rw [hd]
 dsimp only
 split
 ·rename_i y q
  rw [q] at e
  exact congrArg some e
 ·rename_i q
  rw [q] at e
  have a:es.toList.any (·.refKey)=false:=by
   rw [List.any_eq_false]
   intro y hy
   obtain ⟨z,t,hkey⟩:=hk y (Array.mem_toList_iff.mp hy)
   simp [DictEntry.refKey,hkey]
  have a':¬ es.toList.any (·.refKey)=true:=by rw [a]; exact Bool.false_ne_true
  rw [if_neg a']
  exact congrArg some e
theorem ObjM.look {h:Heap} {x dx C:Addr} {mA:Str->Option Value} (I:ObjM h x dx C mA):∃ od,PySem.W.InstAt h x (PySem.W.instObj C dx) C (some od)/\∀ name,PySem.W.lookIn name od=some (mA name) :=
 let ⟨od,ho,hl⟩:=zrc I.ns
 ⟨od,⟨I.obj,rfl,rfl,ho⟩,hl⟩
section
variable {prog:Program} {w:World} {A:Around} {E:Value->Shared->Prop} {s:Shared} {K:PySem.W.Frag} {x dx C f:Addr} {mA:Str->Option Value} {name:Str} {v:Value}
theorem zvh {expr:Bool} {Q:Value->Shared->Prop} (X:K.In s.heap) (I:ObjM s.heap x dx C mA) (hg:PySem.W.plainGet K C name=true) (hh:PySem.W.hasDictIn K C=true)
    (ha:PySem.W.findIn K (.ref C) name=some none) (hv:mA name=some v) (hv':PySem.W.handedIn v=true) (h:Q v { s with toks:=s.toks+1 }) :
    wpAny (model prog w) A (getAttr (.ref x) name expr) Q E s:=by
  obtain ⟨od,J,hl⟩:=I.look
  exact PySem.W.get_value X J (PySem.W.plainGet_of hg).1 (PySem.W.findObj_own hh ha rfl (by rw [hl,hv])) hv' h
theorem ztd {pl:Sem Bool} {Q:Value×List Value->Shared->Prop} (X:K.In s.heap) (I:ObjM s.heap x dx C mA) (hg:PySem.W.plainGet K C name=true)
    (hf:PySem.W.findIn K (.ref C) name=some (some (.ref f))) (ht:PySem.W.isFn K (.ref f)=true) (hv:mA name=none) (h:Q (.ref f,[.ref x]) s) :
    wpAny (model prog w) A (getMethod (.ref x) name pl) Q E s:=by
  obtain ⟨od,J,hl⟩:=I.look
  exact PySem.W.method_fn X J (PySem.W.plainGet_of hg).1 (PySem.W.plainGet_of hg).2 hf (beq_iff_eq.mp ht) (by show (PySem.W.lookIn name od).map (·.isSome)=some false; rw [hl,hv]; rfl) h
theorem zvi {ns:List Str} {Q:Unit->Shared->Prop} (X:K.In s.heap) (I:ObjM s.heap x dx C mA)
    (hs:PySem.W.findIn K (.ref C) "__setattr__" = some (some (.builtin "object.__setattr__"))) (hp:PySem.W.plainOver K C=true) (ht:PySem.W.takerIn K C name=some none) (hh:PySem.W.hasDictIn K C=true)
    (hw:PySem.Within mA ns) (hsz:ns.length<=sizeLine)
    (h:∀ h',ObjM h' x dx C (fun y=>if y=name then some v else mA y)->Heap.SameBut dx s.heap h'->Q () { s with heap:=h',toks:=s.toks+2 }) :
    wpAny (model prog w) A (setAttr (.ref x) name v) Q E s:=by
  obtain ⟨od,J,hl⟩:=I.look
  refine PySem.W.set_plain X J hs (PySem.W.osa_open (s:={ s with toks:=s.toks+1 }) (r:=none) X J hp ht fun b=>?_)
  obtain ⟨cd,hc,hd'⟩:=PySem.W.any_some hh
  have hx:s.heap.get? x=some ⟨.ref C,some dx,.plain,#[]⟩:=I.obj
  refine wpAny_bind (wpAny_pure (wpAny_bind (wpAny_bind (wpAny_loadPart hx (wpAny_bind (PySem.W.Looks.here (s:={ s with toks:=s.toks+1 }) (PySem.W.looks_clsIn X hc) ?_))))))
  rw [hd']
  refine wpAny_pure (a:=some dx) (wpAny_bind (wpAny_pure (wpAny_bind ?_)))
  refine wpAny_nsSet1 (s:={ s with toks:=s.toks+1 }) I.ns fun h' hn2 hs2=>?_
  obtain ⟨oD,esD,epD,hoD,hdD,hcD⟩:=hn2.count (PySem.Within.cons name v hw)
  refine wpAny_bind (wpAny_lookBehind hoD (by rw [hdD]; exact pastItsLine_dict (Nat.le_trans hcD (by rw [List.length_cons]; omega))) ?_)
  exact wpAny_pure (h _ ⟨(hs2.2 _ (Ne.symm I.ne)).trans I.obj,hn2,I.ne⟩ hs2)
theorem zte {R:Result->Shared->Prop} {vs:List Value} {kw:List (Str×Value)} (X:K.In s.heap) (hm:PySem.W.makesIn K C=true)
    (hi:PySem.W.findIn K (.ref C) "__init__" = some (some (.ref f))) (hf:PySem.W.typeIn K (.ref f)=some (.type "function"))
    (h:codeAny (model prog w) (A.under (.builtin "type.__call__" ⟨.ref C :: vs,kw⟩)) (.call (.ref f) ⟨.ref (s.heap.objs.size+1) :: vs,kw⟩) (PySem.W.InitBack (s.heap.objs.size+1) R)
      { s with heap:=(s.heap.push PySem.W.emptyDict).push (PySem.W.instObj C s.heap.objs.size) }) :
    codeAny (model prog w) A (.call (.ref C) ⟨vs,kw⟩) R s:=by
  obtain ⟨hh,g,d,t,os⟩:=s
  exact PySem.W.make_core (PySem.W.makes_of X hm) (PySem.W.looks_findIn X hi) (fun self=>PySem.W.bind_fn X self hf) (.inl rfl) h
end
def putF (f:Str) (v:V):List (Str×V)->List (Str×V)
 | []=>[(f,v)]
 | (g,x) :: r=>if g=f then (g,v) :: r else (g,x) :: putF f v r
theorem zef (f g:Str) (v:V):∀ fs:List (Str×V),(putF f v fs).lookup g=if g=f then some v else fs.lookup g
 | []=>by
  show List.lookup g [(f,v)] = _
  by_cases h:g=f
  ·have hb:(g == f)=true:=beq_iff_eq.mpr h
   simp only [List.lookup,hb,if_pos h]
  ·have hb:(g == f)=false:=beq_eq_false_iff_ne.mpr h
   simp only [List.lookup,hb,if_neg h]
 | (k,x) :: r=>by
  have ih:=zef f g v r
  rw [show putF f v ((k,x) :: r)=(if k=f then (k,v) :: r else (k,x) :: putF f v r) from rfl]
  by_cases hk:k=f
  ·rw [if_pos hk]
   by_cases h:g=k
   ·have hb:(g == k)=true:=beq_iff_eq.mpr h
    simp only [List.lookup,hb,if_pos (h.trans hk)]
   ·have hb:(g == k)=false:=beq_eq_false_iff_ne.mpr h
    simp only [List.lookup,hb,if_neg (fun e:g=f=>h (e.trans hk.symm))]
  ·rw [if_neg hk]
   by_cases h:g=k
   ·have hb:(g == k)=true:=beq_iff_eq.mpr h
    simp only [List.lookup,hb,if_neg (fun e:g=f=>hk (h.symm.trans e))]
   ·have hb:(g == k)=false:=beq_eq_false_iff_ne.mpr h
    simp only [List.lookup,hb]
    exact ih
theorem zin (f:Str) (v:V):∀ fs:List (Str×V),f∈(putF f v fs).map (·.1)/\∀ g,g∈fs.map (·.1)->g∈(putF f v fs).map (·.1)
 | []=>⟨by simp [putF],fun g h=>by simp at h⟩
 | (k,x) :: r=>by
  obtain ⟨i1,i2⟩:=zin f v r
  rw [show putF f v ((k,x) :: r)=(if k=f then (k,v) :: r else (k,x) :: putF f v r) from rfl]
  by_cases hk:k=f
  ·rw [if_pos hk]
   subst hk
   exact ⟨by simp,fun g h=>by simpa using h⟩
  ·rw [if_neg hk]
   refine ⟨?_,fun g h=>?_⟩
   ·rw [List.map_cons]
    exact List.mem_cons_of_mem _ i1
   ·rw [List.map_cons] at h ⊢
    rcases List.mem_cons.mp h with e | e
    ·exact List.mem_cons.mpr (.inl e)
    ·exact List.mem_cons_of_mem _ (i2 g e)
theorem zio (f:Str) (v:V):∀ fs:List (Str×V),(putF f v fs).length<=fs.length+1
 | []=>by simp [putF]
 | (k,x) :: r=>by
  have ih:=zio f v r
  rw [show putF f v ((k,x) :: r)=(if k=f then (k,v) :: r else (k,x) :: putF f v r) from rfl]
  by_cases hk:k=f
  ·rw [if_pos hk,List.length_cons,List.length_cons]; omega
  ·rw [if_neg hk,List.length_cons,List.length_cons]; omega
theorem RelO.some_of {v:V} {o:Option Value} (r:RelO (some v) o):∃ u,o=some u/\RelV v u:=by
 cases o with
 | none=>exact (show False from r).elim
 | some u=>exact ⟨u,rfl,r⟩
theorem RelO.none_of {o:Option Value} (r:RelO none o):o=none:=by
 cases o with
 | none=>rfl
 | some u=>exact (show False from r).elim
theorem zrd {v:V} {u:Value} (r:RelV v u):PySem.W.handedIn u=true:=by
 cases v with
 | non=>cases (show u=Value.none from r); rfl
 | bl b=>cases (show u=Value.bool b from r); rfl
 | int i=>obtain ⟨t,e⟩:=(show ∃ t,u=Value.int i t from r); cases e; rfl
 | str x=>obtain ⟨t,e⟩:=(show ∃ t,u=Value.str x t from r); cases e; rfl
 | byt b=>obtain ⟨t,e⟩:=(show ∃ t,u=Value.bytes b t from r); cases e; rfl
 | flt b=>obtain ⟨t,e⟩:=(show ∃ t,u=Value.float b t from r); cases e; rfl
 | ref a=>cases (show u=Value.ref a from r); rfl
 | ty n=>cases (show u=Value.type n from r); rfl
section
variable {P:Program} {w:World} {H H':Hp} {h h':Heap} {a C dx:Addr} {fs fs':List (Str×V)}
theorem zkv (hok:HOk P w H h) (e:H a=some (.ins C dx fs)):∃ mA,ObjM h a dx C mA/\(∀ f,RelO (fs.lookup f) (mA f))/\PySem.Within mA (fs.map (·.1))/\fs.length<=1000/\H dx=some (.own a):=by
 obtain ⟨d,z,ne,ob,mA,n,r,q⟩:=(show ObjOk P w H h a (.ins C dx fs) from hok a _ e)
 exact ⟨mA,⟨ob,n,ne⟩,r,q,z,d⟩
end
structure Cls (K:PySem.W.Frag) (C:Addr):Prop where
 pg:PySem.W.plainGet K C Str.empty=true
 hd:PySem.W.hasDictIn K C=true
 po:PySem.W.plainOver K C=true
 sa:PySem.W.findIn K (.ref C) "__setattr__" = some (some (.builtin "object.__setattr__"))
theorem Cls.get {K:PySem.W.Frag} {C:Addr} (c:Cls K C) (f:Str):PySem.W.plainGet K C f=true:=c.pg
def NoAttr (K:PySem.W.Frag) (C:Addr) (f:Str):Prop:=PySem.W.findIn K (.ref C) f=some none
theorem NoAttr.taker {K:PySem.W.Frag} {C:Addr} {f:Str} (n:NoAttr K C f):PySem.W.takerIn K C f=some none:=by
 unfold PySem.W.takerIn
 rw [show PySem.W.findIn K (.ref C) f=some none from n]
 rfl
structure Meth (K:PySem.W.Frag) (C:Addr) (m:Str) (f:Addr):Prop where
 at_:PySem.W.findIn K (.ref C) m=some (some (.ref f))
 fn:PySem.W.isFn K (.ref f)=true
 kp:PySem.W.keepIn K (.ref f)=true
section
variable {X:Cx} {pins:List (Addr×Obj)} {σ:St} {H:Hp} {s:Shared} {a C dx:Addr} {fs:List (Str×V)} {f:Str} {v:V} {A:Around} {E:Value->Shared->Prop}
theorem zpy {b:Bool} {Q:Value->Shared->Prop} (I:Inv X pins σ H s) (e:H a=some (.ins C dx fs)) (c:Cls X.K C) (n:NoAttr X.K C f) (l:fs.lookup f=some v)
    (h:∀ u s',Inv X pins σ H s'->RelV v u->Q u s'):wpAny (model X.prog X.w) A (getAttr (.ref a) f b) Q E s:=by
  obtain ⟨mA,O,r,_,_,_⟩:=zkv I.hok e
  obtain ⟨u,hu,ru⟩:=RelO.some_of (v:=v) (o:=mA f) (by rw [<- l]; exact r f)
  exact zvh I.kIn O (c.get f) c.hd n hu (zrd ru) (h u _ (I.tok _) ru)
theorem zkk {m:Str} {g:Addr} {pl:Sem Bool} {Q:Value×List Value->Shared->Prop} (I:Inv X pins σ H s) (e:H a=some (.ins C dx fs)) (c:Cls X.K C) (k:Meth X.K C m g) (l:fs.lookup m=none)
    (h:Q (.ref g,[.ref a]) s):wpAny (model X.prog X.w) A (getMethod (.ref a) m pl) Q E s:=by
  obtain ⟨mA,O,r,_,_,_⟩:=zkv I.hok e
  have hn:mA m=none:=RelO.none_of (by rw [<- l]; exact r m)
  exact ztd I.kIn O (c.get m) k.at_ k.fn hn h
theorem zpz {y:V} {u:Value} {Q:Unit->Shared->Prop} (I:Inv X pins σ H s) (e:H a=some (.ins C dx fs)) (c:Cls X.K C) (n:NoAttr X.K C f) (hl:fs.length<1000) (ry:RelV y u)
    (h:∀ s',Inv X pins σ (upd H a (.ins C dx (putF f y fs))) s'->Q () s'):wpAny (model X.prog X.w) A (setAttr (.ref a) f u) Q E s:=by
  obtain ⟨mA,O,r,wi,_,ho⟩:=zkv I.hok e
  have hz:(fs.map (·.1)).length<=sizeLine:=by rw [List.length_map,sizeLine_eq]; omega
  refine zvi I.kIn O c.sa c.po n.taker c.hd wi hz fun h' O' sb=>h _ ?_
  have hd:∃ o,h'.get? dx=some o:=let ⟨o,_,_,e',_⟩:=O'.ns; ⟨o,e'⟩
  refine I.write (x:=a) (e:=dx) (by rw [e]; exact True.intro) (.inr ho) (fun b q hb z=>(sb.2 b hb).trans z) hd ?_
  refine ⟨by rw [zah O.ne]; exact ho,?_,O.ne,O'.obj,_,O'.ns,fun g=>?_,fun g hg=>?_⟩
  · have:=zio f y fs; omega
  · show RelO ((putF f y fs).lookup g) (if g=f then some u else mA g)
    rw [zef]
    by_cases q:g=f
    · rw [if_pos q,if_pos q]; exact ry
    · rw [if_neg q,if_neg q]; exact r g
  · by_cases q:g=f
    · rw [q]; exact (zin f y fs).1
    · refine (zin f y fs).2 g (wi g fun z=>hg ?_)
      show (if g=f then some u else mA g)=none
      rw [if_neg q]; exact z
theorem Inv.made (I:Inv X pins σ H s):Inv X pins σ (upd (upd H s.heap.objs.size (.own (s.heap.objs.size+1))) (s.heap.objs.size+1) (.ins C s.heap.objs.size []))
    { s with heap:=(s.heap.push PySem.W.emptyDict).push (PySem.W.instObj C s.heap.objs.size) }:=by
  have e1:(s.heap.push PySem.W.emptyDict).get? s.heap.objs.size=some PySem.W.emptyDict:=Heap.get?_push_size s.heap rfl
  have e2:((s.heap.push PySem.W.emptyDict).push (PySem.W.instObj C s.heap.objs.size)).get? (s.heap.objs.size+1)=some (PySem.W.instObj C s.heap.objs.size):=by
    have:=Heap.get?_push_size (s.heap.push PySem.W.emptyDict) (o:=PySem.W.instObj C s.heap.objs.size) rfl
    rwa [Heap.size_push] at this
  have e3:(s.heap.push PySem.W.emptyDict).Ns s.heap.objs.size (fun _=>none):=⟨PySem.W.emptyDict,#[],_,e1,rfl,(fun e he=>absurd he (by simp)),fun _=>rfl⟩
  have I1:=I.laid (a:=s.heap.objs.size) (o:=.own (s.heap.objs.size+1)) (h':=s.heap.push PySem.W.emptyDict) (t':=s.toks) (fun b u q=>Heap.get?_push_of_some _ q) (Nat.le_refl _) ⟨_,e1⟩
  refine I1.laid (a:=s.heap.objs.size+1) (o:=.ins C s.heap.objs.size []) (t':=s.toks) (fun b u q=>Heap.get?_push_of_some _ q) (Nat.le_of_eq (Heap.size_push _ _)) ?_
  have ne:s.heap.objs.size≠s.heap.objs.size+1:=Nat.ne_of_lt (Nat.lt_succ_self _)
  refine ⟨by rw [zah ne,zab],Nat.zero_le _,ne,e2,fun _=>none,(Heap.Ns1.of_empty e3).at fun o q=>Heap.get?_push_of_some _ q,fun _=>True.intro,fun y hy=>absurd rfl hy⟩
theorem zvj {prog:Program} {w:World} {env:Env} {e:Expr} {f:Str} {pos:Pos} {s:Shared} {Q:Value->Shared->Prop} (hb:attributeBase e f env (eval e env)=eval e env)
    (h:wpAny (model prog w) A (eval e env) (fun o s₁=>wpAny (model prog w) A (getAttr o f true) Q E s₁) E s):wpAny (model prog w) A (eval (.Attribute e f pos) env) Q E s :=
  Attribute_any_ h (by rw [arm_eval_Attribute,hb])
end
def tFld (K:PySem.W.Frag) (ta:TE) (f:Str):TE:=fun σ H Q=>ta σ H fun x H1=>∃ a C dx fs v,x = .ref a/\H1 a=some (.ins C dx fs)/\Cls K C/\NoAttr K C f/\fs.lookup f=some v/\Q v H1
def sFld (K:PySem.W.Frag) (ta tv:TE) (f:Str):TS:=fun D σ H=>tv σ H fun y H1=>ta σ H1 fun x H2=>∃ a C dx fs,x = .ref a/\H2 a=some (.ins C dx fs)/\Cls K C/\NoAttr K C f/\fs.length<1000 /\
 D.nx σ (upd H2 a (.ins C dx (putF f y fs)))
section
variable {X:Cx} {o e value:Expr} {f:Str} {pos pos' tpos:Pos} {ta tv:TE}
theorem zas (he:PE X e ta) (hb:attributeBase e f X.env (eval e X.env)=eval e X.env):PE X (.Attribute e f pos) (tFld X.K ta f):=by
 intro pins s σ H Q I h
 refine zvj hb (thn (he pins s σ H _ I h) fun u s1 ⟨x,H1,I1,rx,a,C,dx,fs,v,ex,ea,c,n,l,q⟩=>?_)
 subst ex
 obtain rfl:u=Value.ref a:=rx
 exact zpy I1 ea c n l fun u' s2 I2 ru=>⟨v,H1,I2,ru,q⟩
theorem zcr (ha:PE X o ta) (hv:PE X value tv) (hs:swapsWith value (some (.Attribute o f pos')) pos.line X.env=pure false):PS X (.Assign [.Attribute o f pos'] value pos) (sFld X.K ta tv f):=by
 intro pins s σ H D I h
 refine plainObj_wpAny_Assign_Attribute (thn (hv pins s σ H _ I h) fun u s1 ⟨y,H1,I1,ry,q⟩=>thn (ha pins s1 σ H1 _ I1 q) fun ov s2 ⟨x,H2,I2,rx,a,C,dx,fs,ex,ea,c,n,l,q2⟩=>?_) hs
 subst ex
 obtain rfl:ov=Value.ref a:=rx
 exact zpz I2 ea c n l ry fun s3 I3=>⟨σ,_,I3,q2⟩
end
section
variable {X:Cx} {pins:List (Addr×Obj)} {σ:St} {H:Hp} {s:Shared} {A:Around} {E:Value->Shared->Prop} {Q:Value->Shared->Prop} {c:Value} {b:Bool}
inductive TyOf (K:PySem.W.Frag) (H:Hp):V->Value->Prop where
  | non:TyOf K H .non (.type "NoneType")
  | bl (x:Bool):TyOf K H (.bl x) (.type "bool")
  | int (i:Int):TyOf K H (.int i) (.type "int")
  | str (x:Str):TyOf K H (.str x) (.type "str")
  | flt (x:UInt64):TyOf K H (.flt x) (.type "float")
  | lst {a:Addr} {xs:List V} (e:H a=some (.lst xs)):TyOf K H (.ref a) (.type "list")
  | frz {a:Addr} {o:Obj} {xs:List V} (e:H a=some (.frz o (.lst xs))):TyOf K H (.ref a) (.type "list")
  | tup {a:Addr} {xs:List V} (e:H a=some (.tup xs)):TyOf K H (.ref a) (.type "tuple")
  | dK {a:Addr} {kvs:List (Key×V)} (e:H a=some (.dK kvs)):TyOf K H (.ref a) (.type "dict")
  | dT {a:Addr} {kvs:List (List Key×V)} (e:H a=some (.dT kvs)):TyOf K H (.ref a) (.type "dict")
  | ins {a C dx:Addr} {fs:List (Str×V)} (e:H a=some (.ins C dx fs)) (cl:Cls K C) (ha:PySem.W.findIn K (.ref C) "__class__" = some (some (.builtin "object.__class__")))
      (hn:PySem.W.specialIn K (.builtin "object.__class__") "__get__" = some (some (.builtin "getset_descriptor.__get__"))) (htk:PySem.W.takesIn K (.builtin "object.__class__")=some true)
      (hm:PySem.W.mroIn K C (.type "object")=some true):TyOf K H (.ref a) (.ref C)
theorem zre {x:V} {u t:Value} (I:Inv X pins σ H s) (rx:RelV x u) (ty:TyOf X.K H x t) (e:PySem.W.kitOne X.K t c=some b) (h:∀ tk,Q (.bool b) { s with toks:=tk }) :
    wpAny (model X.prog X.w) A (call (.builtin "isinstance") [u,c]) Q E s:=by
  cases ty with
  | non=>cases (show u=Value.none from rx); exact PySem.W.kia_one PySem.W.kitx_none I.kIn True.intro e (fun z=>nomatch z) h
  | bl y=>cases (show u=Value.bool y from rx); exact PySem.W.kia_one PySem.W.kitx_bool I.kIn True.intro e (fun z=>nomatch z) h
  | int i=>obtain ⟨t,q⟩:=(show ∃ t,u=Value.int i t from rx); cases q; exact PySem.W.kia_one PySem.W.kitx_int I.kIn True.intro e (fun z=>nomatch z) h
  | str y=>obtain ⟨t,q⟩:=(show ∃ t,u=Value.str y t from rx); cases q; exact PySem.W.kia_one PySem.W.kitx_str I.kIn True.intro e (fun z=>nomatch z) h
  | flt y=>obtain ⟨t,q⟩:=(show ∃ t,u=Value.float y t from rx); cases q; exact PySem.W.kia_one PySem.W.kitx_float I.kIn True.intro e (fun z=>nomatch z) h
  | @lst a xs ea =>
    cases (show u=Value.ref a from rx)
    obtain ⟨_,_,n,_,h1⟩:=(show ObjOk X.prog X.w H s.heap a (.lst xs) from I.hok a _ ea)
    exact PySem.W.kia_one PySem.W.kitx_list I.kIn ⟨_,h1,rfl⟩ e (fun z=>nomatch z) h
  | @frz a ob xs ea =>
    cases (show u=Value.ref a from rx)
    obtain ⟨_,_,_,n,_,h1⟩:=(show ObjOk X.prog X.w H s.heap a (.frz ob (.lst xs)) from I.hok a _ ea)
    exact PySem.W.kia_one PySem.W.kitx_list I.kIn ⟨_,h1,rfl⟩ e (fun z=>nomatch z) h
  | @tup a xs ea =>
    cases (show u=Value.ref a from rx)
    obtain ⟨_,_,_,p⟩:=(show ObjOk X.prog X.w H s.heap a (.tup xs) from I.hok a _ ea)
    obtain ⟨o,h1,h2,_⟩:=p
    exact PySem.W.kia_one PySem.W.kitx_tuple I.kIn ⟨o,h1,h2⟩ e (fun z=>nomatch z) h
  | @dK a kvs ea =>
    cases (show u=Value.ref a from rx)
    obtain ⟨_,_,vs,_,p⟩:=(show ObjOk X.prog X.w H s.heap a (.dK kvs) from I.hok a _ ea)
    obtain ⟨o,es,ep,h1,h2,_⟩:=p
    exact PySem.W.kia_one PySem.W.kitx_dict I.kIn ⟨o,h1,h2.1⟩ e (fun z=>nomatch z) h
  | @dT a kvs ea =>
    cases (show u=Value.ref a from rx)
    obtain ⟨_,_,xs,_,o,es,ep,h1,h2,_⟩:=(show ObjOk X.prog X.w H s.heap a (.dT kvs) from I.hok a _ ea)
    exact PySem.W.kia_one PySem.W.kitx_dict I.kIn ⟨o,h1,h2.1⟩ e (fun z=>nomatch z) h
  | @ins a C dx fs ea cl ha hn htk hm =>
    cases (show u=Value.ref a from rx)
    obtain ⟨mA,O,_⟩:=zkv I.hok ea
    obtain ⟨od,J,_⟩:=O.look
    exact PySem.W.kia_one (PySem.W.kitx_own (cl.get _) cl.hd ha hn htk hm) I.kIn J e (fun z=>nomatch z) h
end
end L2
namespace L2
open PySem PySem.Spec PyProof.Rows
structure Room (k:Nat) (A:Around):Prop where
 hd:A.handled=none
 dp:A.depth+3*k+5<recursionLimit
 un:A.units+16*k+200<cLine
theorem Room.mono {j k:Nat} {A:Around} (r:Room k A) (h:j<=k):Room j A:=⟨r.hd,by have:=r.dp; omega,by have:=r.un; omega⟩
theorem Room.deeper {k:Nat} {A:Around} (r:Room (k+1) A) (env:Env):Room k (A.deeper env) :=
 ⟨r.hd,by have:=r.dp; show A.depth+1+3*k+5 < _; omega,by have:=r.un; show A.units+3+16*k+200 < _; omega⟩
theorem zqa {A:Around} {C:Addr} {us:List Value} {kw:List (Str×Value)}:(A.under (.builtin "type.__call__" ⟨.ref C :: us,kw⟩)).depth=A.depth+1:=by
 first | rfl | simp [Around.under,Code.weight,Code.isCreation,Code.isGuard,Code.isCaller,Code.frames,Code.isFrame,guardIds]
theorem zqb {A:Around} {C:Addr} {us:List Value} {kw:List (Str×Value)}:(A.under (.builtin "type.__call__" ⟨.ref C :: us,kw⟩)).units=A.units+1:=by
 first | rfl | simp [Around.under,Code.cUnits,Code.frames,Code.isFrame]
theorem Room.make {k:Nat} {A:Around} (r:Room (k+1) A) (C:Addr) (us:List Value) (kw:List (Str×Value)):Room k (A.under (.builtin "type.__call__" ⟨.ref C :: us,kw⟩)) :=
 ⟨r.hd,by have:=r.dp; rw [zqa]; omega,by have:=r.un; rw [zqb]; omega⟩
theorem Room.depth {k:Nat} {A:Around} (r:Room k A):A.depth<recursionLimit:=by have:=r.dp; omega
theorem Room.units {k:Nat} {A:Around} (r:Room k A):A.units+64<cLine:=by have:=r.un; omega
def tNil:TA:=fun _ H Q=>Q [] H
def tCons (ta:TE) (tr:TA):TA:=fun σ H Q=>ta σ H fun x H1=>tr σ H1 fun xs H2=>Q (x :: xs) H2
section
variable {X:Cx} {e:Expr} {es:List Expr} {te:TE} {t:TA} {pos:Pos}
theorem zag:PA X [] tNil:=fun _ _ _ _ H Q I h=>Calls.spliced_nil ⟨[],H,I,.nil,h⟩
theorem zaa (ha:PE X e te) (hr:PA X es t) (hs:starEach (e :: es) X.env=(false,eval e X.env) :: starEach es X.env:=by rfl):PA X (e :: es) (tCons te t):=by
 intro pos pins s σ H Q I h
 rw [hs]
 show wpAny _ _ (spliced ((false,eval e X.env) :: backTo pos (starEach es X.env))) _ _ s
 refine Calls.spliced_cons (thn (ha pins s σ H _ I h) fun u s1 ⟨x,H1,I1,r1,q1⟩=>?_)
 exact thn (hr pos pins s1 σ H1 _ I1 q1) fun us s2 ⟨xs,H2,I2,r2,q2⟩=>⟨x :: xs,H2,I2,.cons r1 r2,q2⟩
def tTup (t:TA):TE:=fun σ H Q=>t σ H fun xs H1=>xs.length<=sizeLine/\∀ p,H1 p=none->Q (.ref p) (upd H1 p (.tup xs))
def tLst (t:TA):TE:=fun σ H Q=>t σ H fun xs H1=>xs.length<=sizeLine/\∀ p,H1 p=none->Q (.ref p) (upd H1 p (.lst xs))
theorem zdh {x1} (h:PA X es t):PE X (.Tuple es x1 pos) (tTup t):=by
 intro pins s σ H Q I hq
 refine wpAny_Tuple_spliced (thn (h pos pins s σ H _ I hq) fun us s1 ⟨xs,H1,I1,r,z,q⟩=>⟨by rw [<- r.length]; exact z,?_⟩)
 have hf:H1 s1.heap.objs.size=none:=I1.hok.fresh (Nat.le_refl _)
 refine ⟨.ref s1.heap.objs.size,upd H1 s1.heap.objs.size (.tup xs),I1.laid (t':=s1.toks) (fun b u e=>Heap.get?_push_of_some _ e) (Nat.le_refl _) ?_,rfl,q _ hf⟩
 exact ⟨z,us,r,⟨_,Heap.get?_push_size _ rfl,rfl,_,rfl⟩⟩
theorem zea (h:PA X es t):PE X (.List es pos) (tLst t):=by
 intro pins s σ H Q I hq
 refine wpAny_List_spliced (thn (h pos pins s σ H _ I hq) fun us s1 ⟨xs,H1,I1,r,z,q⟩=>⟨by rw [<- r.length]; exact z,?_⟩)
 have hf:H1 s1.heap.objs.size=none:=I1.hok.fresh (Nat.le_refl _)
 refine ⟨.ref s1.heap.objs.size,upd H1 s1.heap.objs.size (.lst xs),I1.laid (t':=s1.toks) (fun b u e=>Heap.get?_push_of_some _ e) (Nat.le_refl _) ?_,rfl,q _ hf⟩
 exact ⟨z,us,0,r,Heap.get?_push_size _ rfl⟩
end
abbrev Sp:=List V->Hp->VK->XK->Prop
abbrev CXT:=List Env->Hp->Shared->XK->Value->Shared->Prop
structure Env0 (P:Program) (w:World) (K:PySem.W.Frag) (mg:Str->Option Value) (base:Heap) (A:Around) (outer:List Env) (s:Shared) (H:Hp):Prop where
 frames:A.frames=some outer
 mod:Mod K mg base
 bs:∀ b o,base.get? b=some o->s.heap.get? b=some o/\H b=none
 bsz:base.objs.size<=s.heap.objs.size
 funs:s.heap.FunFrames base outer
 frf:∀ b∈frs outer,H b=none
 hok:HOk P w H s.heap
 bare:AllBare s.gens
def CE (outer:List Env) (P:Program) (w:World) (H:Hp) (s:Shared) (Q:VK) (u:Value) (s':Shared):Prop :=
 ∃ v H',s'.os=s.os/\AllBare s'.gens/\Un (frs outer) [] H H' s.heap s'.heap/\HOk P w H' s'.heap/\RelV v u/\Q v H'
def CR (CX:CXT) (outer:List Env) (P:Program) (w:World) (H:Hp) (s:Shared) (Q:VK) (E:XK) (r:Result) (s':Shared):Prop :=
 match r with
 | .ok (.ret u)=>CE outer P w H s Q u s'
 | .ok _=>False
 | .error e=>CX outer H s E e s'
structure FnOk (P:Program) (w:World) (K:PySem.W.Frag) (mg:Str->Option Value) (base:Heap) (CX:CXT) (k:Nat) (f:Addr) (fd:FuncData) (ps:List Str) (sp:Sp):Prop where
 len:∀ vs H Q E,sp vs H Q E->vs.length=ps.length
 run:∀ (A:Around) (outer:List Env) (s:Shared) (H:Hp) (args:Args) (us:List Value) (vs:List V) (Q:VK) (E:XK),Room k A->Env0 P w K mg base A outer s H->BindsTo s fd args (ps.zip us)->Vals vs us->sp vs H Q E ->
  codeAny (model P w) A (.call (.ref f) args) (CR CX outer P w H s Q E) s
theorem Env0.make {P:Program} {w:World} {K:PySem.W.Frag} {mg:Str->Option Value} {base:Heap} {A:Around} {outer:List Env} {s:Shared} {H:Hp} (e:Env0 P w K mg base A outer s H) (C:Addr) (us:List Value) (kw:List (Str×Value)) :
    Env0 P w K mg base (A.under (.builtin "type.__call__" ⟨.ref C :: us,kw⟩)) outer s H:=⟨by first | exact e.frames | (simpa [Around.under,Code.envs,Code.isFrame,pushEnvs] using e.frames),e.mod,e.bs,e.bsz,e.funs,e.frf,e.hok,e.bare⟩
section
variable {X:Cx} {pins:List (Addr×Obj)} {σ:St} {H:Hp} {s s':Shared}
theorem Inv.env0 (I:Inv X pins σ H s):Env0 X.prog X.w X.K X.mg X.base X.A X.stack s H :=
 ⟨I.ok.frames,I.ok.mod,I.bs,Nat.le_trans I.ok.bsz I.sz,I.stack,I.stkFree,I.hok,I.bare⟩
theorem Inv.after {Q:VK} {u:Value} (I:Inv X pins σ H s) (h:CE X.stack X.prog X.w H s Q u s'):EP X pins σ Q u s':=by
 obtain ⟨v,H',os,bare,un,hok,r,q⟩:=h
 obtain ⟨hh,g,d,t,os'⟩:=s'
 obtain rfl:os'=s.os:=os
 exact ⟨v,H',I.call (h':=hh) (g':=g) (d':=d) (t':=t) (ch:=[]) un hok bare (fun b z=>absurd z (by simp)),r,q⟩
end
def tCall (sp:Sp) (dvs:List V) (E:XK) (t:TA):TE:=fun σ H Q=>t σ H fun vs H1=>sp (vs++dvs) H1 Q E
def Binds (K:PySem.W.Frag) (fd:FuncData) (ps:List Str) (ds:List Value):Prop :=
 ∀ (s:Shared) (us:List Value),K.In s.heap->(us++ds).length=ps.length->BindsTo s fd ⟨us,[]⟩ (ps.zip (us++ds))
theorem Binds.all {K:PySem.W.Frag} {fd:FuncData} {ps:List Str} (h:∀ us:List Value,us.length=ps.length->bindArgs fd ⟨us,[]⟩ = pure (ps.zip us)):Binds K fd ps []:=fun s us _ hl=>by
 rw [List.append_nil] at hl ⊢
 exact .of_eq (h us hl)
section
variable {X:Cx} {CX:CXT} {k:Nat} {f C:Addr} {fd:FuncData} {ps:List Str} {sp:Sp} {dvs:List V} {ds:List Value} {E:XK} {x m:Str} {p pos apos:Pos} {e o:Expr} {es:List Expr} {ta:TE} {t:TA}
structure Mk (K:PySem.W.Frag) (C f:Addr):Prop where
 makes:PySem.W.makesIn K C=true
 init:PySem.W.findIn K (.ref C) "__init__" = some (some (.ref f))
 fn:PySem.W.isFn K (.ref f)=true
 kp:PySem.W.keepIn K (.ref C)=true
end
section
variable {X:Cx} {CX:CXT} {k:Nat} {f C:Addr} {fd:FuncData} {ps ks:List Str} {sp:Sp} {E:XK} {x m:Str} {p pos apos kpos:Pos} {e o:Expr} {es:List Expr} {kws:List Keyword} {te ta:TE} {t tk:TA} {nm:Option Str}
variable {g:List Value->List Value->List Value} {gV:List V->List V->List V}
end
structure FnScope (N P:List Str) (sc:Scope):Prop where
 kind:sc.kind = .function
 co:sc.isCoroutine=false
 gen:sc.isGenerator=false
 nd:N.Nodup
 pre:N.take P.length=P
 par:∀ x∈P,sc.names.lookup x=some .local\/sc.names.lookup x=some .cell
 nofree:∀ y∈sc.names,y.2≠.free
theorem zlu {kindOf:Str->Option NameKind} {x:Str}:∀ {binds:List (Str×Value)} {m:Str->Option Value},(∀ v,(x,v) ∉ binds)->bindL kindOf binds m x=m x
 | [],_,_=>rfl
 | (n,v) :: r,m,h=>by
  unfold bindL
  rw [zlu fun w hw=>h w (List.mem_cons_of_mem _ hw)]
  split
  ·have:x≠n:=by rintro rfl; exact h v List.mem_cons_self
   simp [this]
  ·rfl
theorem zlv {kindOf:Str->Option NameKind} {x:Str}:∀ {binds:List (Str×Value)} {m:Str->Option Value},(∀ v,(x,v) ∉ binds)->bindC kindOf binds m x=m x
 | [],_,_=>rfl
 | (n,v) :: r,m,h=>by
  unfold bindC
  rw [zlv fun w hw=>h w (List.mem_cons_of_mem _ hw)]
  split
  ·rfl
  ·have:x≠n:=by rintro rfl; exact h v List.mem_cons_self
   simp [this]
theorem zlw {kindOf:Str->Option NameKind} {x:Str} {v:Value}:∀ {P:List Str} {vs:List Value} {i:Nat} {m:Str->Option Value},P.Nodup->P[i]? = some x->vs[i]? = some v->kindOf x=some .local ->
    bindL kindOf (P.zip vs) m x=some v
  | [],_,_,_,_,h,_,_=>by simp at h
  | _ :: _,[],_,_,_,_,h,_=>by simp at h
  | p :: P,w :: vs,0,m,nd,h1,h2,hk=>by
    simp at h1 h2; subst h1; subst h2
    show bindL kindOf ((p,w) :: P.zip vs) m p = _
    unfold bindL
    rw [zlu fun v hv=>(List.nodup_cons.mp nd).1 (List.of_mem_zip hv).1,if_pos hk]
    simp
  | p :: P,w :: vs,i+1,m,nd,h1,h2,hk=>by
    show bindL kindOf ((p,w) :: P.zip vs) m x = _
    unfold bindL
    exact zlw (i:=i) (List.nodup_cons.mp nd).2 (by simpa using h1) (by simpa using h2) hk
theorem zlx {kindOf:Str->Option NameKind} {x:Str} {v:Value}:∀ {P:List Str} {vs:List Value} {i:Nat} {m:Str->Option Value},P.Nodup->P[i]? = some x->vs[i]? = some v->kindOf x≠some .local ->
    bindC kindOf (P.zip vs) m x=some v
  | [],_,_,_,_,h,_,_=>by simp at h
  | _ :: _,[],_,_,_,_,h,_=>by simp at h
  | p :: P,w :: vs,0,m,nd,h1,h2,hk=>by
    simp at h1 h2; subst h1; subst h2
    show bindC kindOf ((p,w) :: P.zip vs) m p = _
    unfold bindC
    rw [zlv fun v hv=>(List.nodup_cons.mp nd).1 (List.of_mem_zip hv).1,if_neg hk]
    simp
  | p :: P,w :: vs,i+1,m,nd,h1,h2,hk=>by
    show bindC kindOf ((p,w) :: P.zip vs) m x = _
    unfold bindC
    exact zlx (i:=i) (List.nodup_cons.mp nd).2 (by simpa using h1) (by simpa using h2) hk
def start (N:List Str) (vs:List V):St:=vs.map some++List.replicate (N.length-vs.length) none
def cxOf (CX:CXT) (P:Program) (w:World) (K:PySem.W.Frag) (mg:Str->Option Value) (base:Heap) (N:List Str) (qual:Str) (scope:Scope) (f:Addr) (cd:Value) (A:Around) (outer:List Env) (s:Shared) (H:Hp) (E:XK):Cx where
 prog:=P
 w:=w
 K:=K
 mg:=mg
 base:=base
 A:=A.deeper (envOfC qual scope s.heap.objs.size f cd)
 N:=N
 s₀:=s
 H₀:=H
 env:=envOfC qual scope s.heap.objs.size f cd
 outer:=outer
 stack:=envOfC qual scope s.heap.objs.size f cd :: outer
 ex:=[]
 calm:=true
 fn:=fun _=>true
 pn:=[]
 xe:=fun e s'=>wpAny (model P w) (A.deeper (envOfC qual scope s.heap.objs.size f cd)) (leaving (envOfC qual scope s.heap.objs.size f cd) e) (fun _ s''=>CX outer H s E e s'') (fun e' s''=>CX outer H s E e' s'') s'
theorem zoy {sc:Scope} {n:Nat} {x:Str} (h:sc.names.lookup x=some .cell):∃ c,(cellsFrom n sc.names []).lookup x=some c:=by
 have q:=PySem.W.cellsFrom_some sc.names n [] (.inl h)
 exact Option.isSome_iff_exists.mp q
theorem zrf {CX:CXT} {P:Program} {w:World} {K:PySem.W.Frag} {mg:Str->Option Value} {base:Heap} {N ps:List Str} {qual:Str} {scope:Scope} {f:Addr} {cd:Value} {A:Around} {outer:List Env} {s s1:Shared} {H:Hp} {E:XK} {us:List Value} {vs:List V}
    (S:FnScope N ps scope) (hd:A.handled=none) (e0:Env0 P w K mg base A outer s H) (hl:vs.length=ps.length) (r:Vals vs us)
    (x:InCallC s s.heap.objs.size (bindL (envOfC qual scope s.heap.objs.size f cd).kindOf (ps.zip us) fun _=>none) (cellsFrom (s.heap.objs.size+1) scope.names []) (bindC (envOfC qual scope s.heap.objs.size f cd).kindOf (ps.zip us) fun _=>none) s1) :
    Inv (cxOf CX P w K mg base N qual scope f cd A outer s H E) [] (start N vs) H s1:=by
  have hpl:ps.length<=N.length:=by have:=congrArg List.length S.pre; rw [List.length_take] at this; omega
  obtain ⟨h1,tk,rfl,hk⟩:=x.done
  have noA:∀ b:Addr,b ∉ (cxOf CX P w K mg base N qual scope f cd A outer s H E).ex:=fun b z=>absurd (show b∈([]:List Addr) from z) (by simp)
  refine ⟨⟨e0.mod,S.kind,rfl,rfl,Nat.le_refl _,fun y z c h1 h2=>?_,fun y hy=>?_,fun y c _ h=>?_,fun _=>hd,Around.frames_deeper e0.frames,.inr ⟨rfl,rfl⟩,fun b z=>absurd z (noA b),e0.bs,e0.bsz,fun b _ _=>noA b,fun b z=>absurd z (noA b),e0.funs,e0.frf⟩,
    rfl,e0.bare,Un.kept hk,⟨_,x.toInCall.ns,fun i y v h1 h2 h3=>?_⟩,fun y c h=>⟨_,x.cell y c h⟩,e0.hok.fresh (Nat.le_refl _),fun y c h=>?_,fun p hp=>absurd (show p∈([]:List (Addr×Obj)) from hp) (by simp),e0.hok.kept hk,?_⟩
  · exact name_of_addr x.apart (PySem.mem_of_lookup h1) (PySem.mem_of_lookup h2)
  · have hy:scope.names.lookup y=some .cell\/scope.names.lookup y=some .free:=hy
    rcases hy with hy | hy
    · exact zoy hy
    · exact absurd rfl (S.nofree _ (PySem.mem_of_lookup hy))
  · exact Nat.le_of_lt (x.above y c (PySem.mem_of_lookup h))
  · have hi:i<vs.length:=by
      unfold start at h2
      by_cases hi:i<vs.length
      · exact hi
      · rw [List.getElem?_append_right (by simpa using hi)] at h2
        rw [List.getElem?_replicate] at h2
        split at h2 <;> cases h2
    have ha:vs[i]? = some v:=by
      unfold start at h2
      rw [List.getElem?_append_left (by simpa using hi),List.getElem?_map] at h2
      cases e:vs[i]? with
      | none=>rw [e] at h2; cases h2
      | some a=>rw [e] at h2; cases h2; rfl
    obtain ⟨u,hu,rv⟩:=r.get ha
    have hp:ps[i]? = some y:=by
      rw [<- S.pre,List.getElem?_take_of_lt (by omega)]; exact h1
    have ndP:ps.Nodup:=by rw [<- S.pre]; exact S.nd.sublist (List.take_sublist _ _)
    refine ⟨u,rv,?_⟩
    rcases S.par y (List.mem_of_getElem? hp) with k | k
    · exact .inl ⟨k,zlw ndP hp hu k⟩
    · obtain ⟨c,e⟩:=zoy (n:=s.heap.objs.size+1) k
      refine .inr ⟨.inl k,c,e,?_⟩
      have q:=x.cell y c e
      rw [zlx ndP hp hu (by show scope.names.lookup y≠_; rw [k]; decide)] at q
      exact q
  · exact e0.hok.fresh (Nat.le_of_lt (x.above y c (PySem.mem_of_lookup h)))
  · unfold start
    show _=N.length
    rw [List.length_append,List.length_map,List.length_replicate]
    omega
theorem fn_of {CX:CXT} {P:Program} {w:World} {K:PySem.W.Frag} {mg:Str->Option Value} {base:Heap} {k:Nat} {f:Addr} {name qual:Str} {params:Arguments} {body:List Stmt} {scope:Scope} {dV kV doc pm cdv ct oc:Value} {an od:Option Addr}
    {osl:Array (Option Value)} {N ps:List Str} {sp:Sp} (lk:K.lookup f=some ⟨oc,od,.func (PySem.W.fnOf name qual params body scope dV kV doc pm an cdv ct),osl⟩) (hcd:PySem.W.codeIn K cdv qual=true) (S:FnScope N ps scope)
    (len:∀ vs H Q E,sp vs H Q E->vs.length=ps.length)
    (hbody:∀ (A:Around) (outer:List Env) (s:Shared) (H:Hp) (vs:List V) (Q:VK) (E:XK),Room k (A.deeper (envOfC qual scope s.heap.objs.size f cdv))->sp vs H Q E ->
      ∃ t,PSs (cxOf CX P w K mg base N qual scope f cdv A outer s H E) body t/\t { nx:=fun _ H'=>Q .non H',rt:=Q } (start N vs) H) :
    FnOk P w K mg base CX (k+1) f (PySem.W.fnOf name qual params body scope dV kV doc pm an cdv ct) ps sp:=by
  refine ⟨len,fun A outer s H args us vs Q E hr e0 hb r hsp=>?_⟩
  have hl:=len _ _ _ _ hsp
  have KX:K.In s.heap:=e0.mod.kin.keeps fun b o e=>(e0.bs b o e).1
  have lim:s.heap.NoLimit:=e0.mod.nolimit.keeps fun b o e=>(e0.bs b o e).1
  have hkind:∀ y∈ps.zip us,scope.names.lookup y.1=some .local\/(scope.names.lookup y.1=some .cell/\((cellsFrom (s.heap.objs.size+1) scope.names []).lookup y.1).isSome=true):=fun ⟨n,v⟩ hy=>by
    rcases S.par n (List.of_mem_zip hy).1 with q | q
    · exact .inl q
    · exact .inr ⟨q,PySem.W.cellsFrom_some _ _ _ (.inl q)⟩
  refine codeAny_call_function hr.depth (KX _ _ lk) rfl S.co S.gen rfl (PySem.W.codeRec_of KX hcd) (hb _ _ _ _ ?_)
  refine wpAny_newFunctionEnv_cells S.kind hkind fun env he s1 x=>?_
  subst he
  refine ⟨lim.keeps x.toInCall.keep,codeAny_func ?_⟩
  obtain ⟨t,ht,hq⟩:=hbody A outer s H vs Q E (hr.deeper _) hsp
  have I:Inv (cxOf CX P w K mg base N qual scope f cdv A outer s H E) [] (start N vs) H s1:=zrf S hr.hd e0 hl r x
  refine wpAny_mono (ht [] s1 (start N vs) H _ I hq) (fun fl s' hs=>?_) fun e s' hs=>hs
  have fin:∀ {σ':St} {H':Hp} {v:V} {u:Value},Inv (cxOf CX P w K mg base N qual scope f cdv A outer s H E) [] σ' H' s'->RelV v u->Q v H'->CE outer P w H s Q u s' :=
    fun {σ' H' v u} J rv q=>⟨v,H',J.os,J.bare,J.base,J.hok,rv,q⟩
  cases fl with
  | ret u =>
    obtain ⟨v,σ',H',J,rv,q⟩:=hs
    exact fin J rv q
  | next =>
    obtain ⟨σ',H',J,q⟩:=hs
    exact fin (v:=V.non) (u:=Value.none) J rfl q
  | brk =>
    obtain ⟨_,_,_,q⟩:=hs
    exact False.elim q
  | cont =>
    obtain ⟨_,_,_,q⟩:=hs
    exact False.elim q
end L2
namespace L2
open PySem PySem.Spec PyProof.Rows
section
variable {X:Cx} {x:Str} {p pos:Pos} {e:Expr} {es:List Expr} {t:TA} {id T:String} {r:List V->Hp->VK->Prop}
def tCB (r:List V->Hp->VK->Prop) (t:TA):TE:=fun σ H Q=>t σ H fun vs H1=>r vs H1 Q
theorem zbq (hc:CallR X (.builtin id) r) (hg:Gl X x) (hm:X.mg x=none) (hv:bootBuiltins x=some (.builtin id)) (ha:PA X (e :: es) t) (hn:x ≠ "__name__" := by decide) (hdb:(x == ("__debug__" : Str))=false:=by decide)
    (he:starEach (e :: es) X.env=(false,eval e X.env) :: starEach es X.env:=by rfl) (hpl:(backTo pos (starEach es X.env)).any (·.1)=false:=by rfl):PE X (.Call (.Name x p) (e :: es) [] pos) (tCB r t):=by
  intro pins s σ H Q I h
  refine wpAny_Call_Name_kw (zos I hg hm hv ?_ hn hdb)
  exact PyProof.Rows.callWith_builtin1 (thn (ha pos pins s σ H _ I h) fun us s1 ⟨vs,H1,I1,r1,q1⟩=>hc pins s1 σ H1 vs us Q I1 r1 q1) he hpl
theorem zhh (hc:CallR X (.type T) r) (hg:Gl X x) (hm:X.mg x=none) (hv:bootBuiltins x=some (.type T)) (ha:PA X (e :: es) t) (hn:x ≠ "__name__" := by decide) (hdb:(x == ("__debug__" : Str))=false:=by decide)
    (he:starEach (e :: es) X.env=(false,eval e X.env) :: starEach es X.env:=by rfl) (hpl:(backTo pos (starEach es X.env)).any (·.1)=false:=by rfl):PE X (.Call (.Name x p) (e :: es) [] pos) (tCB r t):=by
  intro pins s σ H Q I h
  refine wpAny_Call_Name_kw (zos I hg hm hv ?_ hn hdb)
  exact PyProof.Rows.callWith_type1 (thn (ha pos pins s σ H _ I h) fun us s1 ⟨vs,H1,I1,r1,q1⟩=>hc pins s1 σ H1 vs us Q I1 r1 q1) he hpl
end
end L2
namespace HT
open PySem PyProof.Rows
section
open PySem.SeqAt
open PySem.AutoSeq1 (wpAny_loadPart')
open PySem.MeetsSeq PySem.MeetsSeq2 PySem.MeetsSeq3
end
section
variable {prog:Program} {w:World} {A:Around} {E:Value->Shared->Prop} {s:Shared}
def sIx (n d:Nat):Option Int->Nat
 | none=>d
 | some v=>if v<0 then (v+(n:Int)).toNat else min v.toNat n
theorem sIx_none (n d:Nat):sIx n d none=d:=rfl
theorem sIx_nat (n d k:Nat):sIx n d (some (k:Int))=min k n:=by
 show (if (k:Int)<0 then ((k:Int)+(n:Int)).toNat else min (k:Int).toNat n)=min k n
 rw [if_neg (by omega),Int.toNat_natCast]
end
end HT
namespace L2
open PySem PySem.Spec PyProof.Rows
abbrev TO:=St->Hp->(Option Int->Hp->Prop)->Prop
def PO (X:Cx) (e:Option Expr) (t:TO):Prop :=
 ∀ (pins:List (Addr×Obj)) (s:Shared) (σ:St) (H:Hp) (Q:Option Int->Hp->Prop),Inv X pins σ H s->t σ H Q ->
  wpAny (model X.prog X.w) X.A (evalPart e X.env) (fun u s'=>∃ o H',Inv X pins σ H' s'/\IsPart u o/\Q o H') X.xe s
def tNoPart:TO:=fun _ H Q=>Q none H
def tPart (t:TE):TO:=fun σ H Q=>t σ H fun x H1=>∃ i,x = .int i/\Q (some i) H1
theorem zqc {ns:List Int}:∀ {us:List Value},Vals (ns.map V.int) us->IntsAre us ns:=by
 induction ns with
 | nil=>intro us r; rw [List.map_nil] at r; cases r; exact .nil
 | cons n ns ih =>
  intro us r
  rw [List.map_cons] at r
  cases r with
  | cons r1 r2 =>
   obtain ⟨t,e⟩:=r1
   subst e
   exact .cons n t (ih r2)
section
variable {X:Cx} {e:Expr} {te:TE} {lo hi:Option Expr} {tl th:TO} {pos p2:Pos}
theorem ziq:PO X none tNoPart:=by
 intro pins s σ H Q I h
 rw [evalPart_none]
 exact wpAny_pure ⟨none,H,I,.none,h⟩
theorem zgs (h:PE X e te):PO X (some e) (tPart te):=by
 intro pins s σ H Q I hw
 rw [evalPart_some]
 refine thn (h pins s σ H _ I hw) fun u s1 ⟨x,H1,I1,r1,q1⟩=>?_
 obtain ⟨i,rfl,q⟩:=q1
 obtain ⟨t,rfl⟩:=r1
 exact ⟨some i,H1,I1,.int i t,q⟩
def SlR (X:Cx) (r:V->Option Int->Option Int->Hp->VK->Prop):Prop :=
 ∀ (pins:List (Addr×Obj)) (s:Shared) (σ:St) (H:Hp) (x:V) (v vl vu:Value) (lo hi:Option Int) (sl:Addr) (Q:VK),Inv X pins σ H s->RelV x v->s.heap.IsSliceOf sl vl vu .none->IsPart vl lo->IsPart vu hi->r x lo hi H Q ->
  ∃ T id,typeLookup (.type T) "__getitem__" = pure (some (.builtin id))/\s.TypeIs v T/\wpAny (model X.prog X.w) X.A (getItem v (.ref sl)) (EP X pins σ Q) X.xe s
def tSl (r:V->Option Int->Option Int->Hp->VK->Prop) (te:TE) (tl th:TO):TE:=fun σ H Q=>te σ H fun x H1=>tl σ H1 fun l H2=>th σ H2 fun u H3=>r x l u H3 Q
theorem zfw {r:V->Option Int->Option Int->Hp->VK->Prop} (hr:SlR X r) (he:PE X e te) (hl:PO X lo tl) (hu:PO X hi th):PE X (.Subscript e (.Slice lo hi none p2) pos) (tSl r te tl th):=by
 intro pins s σ H Q I h
 refine Subscript_ (thn (he pins s σ H _ I h) fun v s1 ⟨x,H1,I1,r1,q1⟩=>?_)
 refine wpAny_Slice (thn (hl pins s1 σ H1 _ I1 q1) fun vl s2 ⟨l,H2,I2,pl,q2⟩=>thn (hu pins s2 σ H2 _ I2 q2) fun vu s3 ⟨u,H3,I3,pu,q3⟩=>?_)
 rw [evalPart_none]
 refine wpAny_pure ?_
 have I4:Inv X pins σ H3 { s3 with heap:=s3.heap.push { cls:=.type "slice", data:=.fields #[vl,vu,.none] } }:=I3.kept (t':=s3.toks) fun b ob q=>Heap.get?_push_of_some _ q
 obtain ⟨T,id,hT,ht,hg⟩:=hr pins { s3 with heap:=s3.heap.push { cls:=.type "slice", data:=.fields #[vl,vu,.none] } } σ H3 x v vl vu l u s3.heap.objs.size Q I4 r1 (Heap.IsSliceOf.new ..) pl pu q3
 show wpAny (model X.prog X.w) X.A (subscriptTail e (.Slice lo hi none p2) v (.ref s3.heap.objs.size)) (EP X pins σ Q) X.xe { s3 with heap:=s3.heap.push { cls:=.type "slice", data:=.fields #[vl,vu,.none] } }
 exact tail_any (ops:=[.ref s3.heap.objs.size,v]) ht hT hg (by with_unfolding_all rfl)
def cutV (xs:List V) (lo hi:Option Int):List V:=(xs.drop (HT.sIx xs.length 0 lo)).take (HT.sIx xs.length xs.length hi-HT.sIx xs.length 0 lo)
theorem zno (xs:List V) (lo hi:Option Int):(cutV xs lo hi).length<=xs.length:=by
 unfold cutV
 rw [List.length_take,List.length_drop]
 omega
end
end L2
namespace L2
open PySem PySem.Spec PyProof.Rows
def ixN (n:Nat) (i:Int):Option Nat:=if 0<=i then (if i<n then some i.toNat else none) else if -(n:Int)<=i then some (i+n).toNat else none
def atI {α:Type} (xs:List α) (i:Int):Option α:=(ixN xs.length i).bind fun j=>xs[j]?
theorem zvk {n:Nat} {i:Int} {j:Nat} (h:ixN n i=some j):seqIndex? i n=some j/\j<n/\-(n:Int)<=i/\i<n:=by
 unfold ixN at h
 by_cases h0:0<=i
 ·rw [if_pos h0] at h
  by_cases h1:i<n
  ·rw [if_pos h1] at h
   have e:i.toNat=j:=Option.some.inj h
   exact ⟨by rw [seqIndex_of h0 h1,e],by omega,by omega,h1⟩
  ·rw [if_neg h1] at h; cases h
 ·rw [if_neg h0] at h
  by_cases h1:-(n:Int)<=i
  ·rw [if_pos h1] at h
   have e:(i+n).toNat=j:=Option.some.inj h
   exact ⟨by rw [seqIndex_neg (by omega) h1,e],by omega,h1,by omega⟩
  ·rw [if_neg h1] at h; cases h
theorem zrg {α:Type} {xs:List α} {i:Int} {v:α} (h:atI xs i=some v):∃ j,seqIndex? i xs.length=some j/\xs[j]? = some v/\j<xs.length/\-(xs.length:Int)<=i/\i<xs.length:=by
 unfold atI at h
 cases e:ixN xs.length i with
 | none=>rw [e] at h; cases h
 | some j =>
  rw [e] at h
  obtain ⟨h1,h2,h3,h4⟩:=zvk e
  exact ⟨j,h1,h,h2,h3,h4⟩
theorem zht {α:Type} {xs:List α} {j:Nat} {v:α} (h:xs[j]? = some v):atI xs (j:Int)=some v:=by
 have hj:j<xs.length:=(List.getElem?_eq_some_iff.mp h).1
 have e:ixN xs.length (j:Int)=some j:=by
  unfold ixN
  rw [if_pos (by omega),if_pos (by omega)]; simp
 unfold atI; rw [e]; exact h
def zvl (b:Expr):Prop:=∀ o i,subscripted b false o i=operate [o,i] (getItem o i)
def IxR (X:Cx) (r:R2):Prop :=
 ∀ (value slice:Expr) (pins:List (Addr×Obj)) (s:Shared) (σ:St) (H:Hp) (x y:V) (v u:Value) (Q:VK),Inv X pins σ H s->RelV x v->RelV y u->r x y H Q ->
  subscripted slice false v u=operate [v,u] (getItem v u)->wpAny (model X.prog X.w) X.A (subscriptTail value slice v u) (EP X pins σ Q) X.xe s
def MtR (X:Cx) (id:String) (r:V->List V->Hp->VK->Prop):Prop :=
 ∀ (pins:List (Addr×Obj)) (s:Shared) (σ:St) (H:Hp) (x:V) (xs:List V) (v:Value) (us:List Value) (Q:VK),Inv X pins σ H s->RelV x v->Vals xs us->r x xs H Q ->
  wpAny (model X.prog X.w) X.A (call (.builtin id) (v :: us)) (EP X pins σ Q) X.xe s
section
variable {X:Cx} {a b:Expr} {ta tb:TE} {pos:Pos}
theorem pe_ix {r:R2} (hr:IxR X r) (ha:PE X a ta) (hb:PE X b tb) (hs:zvl b):PE X (.Subscript a b pos) (tOp r ta tb):=by
 intro pins s σ H Q I h
 exact Subscript_ (binT ha hb I h fun v u s2 x y H2 I2 rx ry q=>hr a b pins s2 σ H2 x y v u Q I2 rx ry q (hs _ _))
def rIxL (K:PySem.W.Frag):R2:=fun x y H Q=>∃ p xs i v,x = .ref p/\y = .int i/\SqL K H p xs/\atI xs i=some v/\Q v H
def rIxT (K:PySem.W.Frag):R2:=fun x y H Q=>∃ p xs i v,x = .ref p/\y = .int i/\SqT K H p xs/\atI xs i=some v/\Q v H
theorem zvm:IxR X (rIxL X.K):=by
 intro value slice pins s σ H x y v u Q I rx ry h hs
 obtain ⟨p,xs,i,z,rfl,rfl,hq,he,q⟩:=h
 cases rx
 obtain ⟨t,rfl⟩:=ry
 obtain ⟨its,r,pl,hz⟩:=I.list hq
 obtain ⟨j,h1,h2,h3,h4,h5⟩:=zrg he
 obtain ⟨w,ew,rw'⟩:=r.get h2
 have hl:=r.length
 have hn:=zow
 have fin:EP X pins σ Q w s:=⟨z,H,I,rw',q⟩
 by_cases h0:0<=i
 ·have hj:i.toNat=j:=by
   rw [seqIndex_of h0 h5] at h1
   exact Option.some.inj h1
  exact item_listR pl.isList h0 (by omega) (by rw [hj]; simpa using ew) fin hs
 ·have hj:(i+(its.toArray.size:Int)).toNat=j:=by
   rw [seqIndex_neg (by omega) h4] at h1
   rw [List.size_toArray,<- hl]
   exact Option.some.inj h1
  exact subscriptTail_builtinR (x:=w) pl.isList.typeIs slot_list_getitem.lookup
   (wpAny_getItem_list_neg (Q:=fun r s'=>r=w/\EP X pins σ Q r s') pl.isList (by omega) (by rw [List.size_toArray] <;> omega) (by omega) (by rw [hj]; simpa using ew) ⟨rfl,fin⟩) hs
theorem zxi:IxR X (rIxT X.K):=by
 intro value slice pins s σ H x y v u Q I rx ry h hs
 obtain ⟨p,xs,i,z,rfl,rfl,hq,he,q⟩:=h
 cases rx
 obtain ⟨t,rfl⟩:=ry
 obtain ⟨its,r,pl,hz⟩:=I.tuple hq
 obtain ⟨j,h1,h2,h3,h4,h5⟩:=zrg he
 obtain ⟨w,ew,rw'⟩:=r.get h2
 have hl:=r.length
 have hn:=zow
 have fin:EP X pins σ Q w s:=⟨z,H,I,rw',q⟩
 exact subscriptTail_builtinR (x:=w) pl.typeIs slot_tuple_getitem.lookup
  (getItem_tuple (j:=j) (Q:=fun r s'=>r=w/\EP X pins σ Q r s') pl (by omega) (by omega) (by rw [List.size_toArray,<- hl]; exact h1) (by simpa using ew) ⟨rfl,fin⟩) hs
theorem zly (lo hi:Option Int) (n:Nat):(sliceBounds lo hi none n).1=((HT.sIx n 0 lo:Nat):Int)/\(sliceBounds lo hi none n).2.1=((HT.sIx n n hi:Nat):Int)/\(sliceBounds lo hi none n).2.2 = 1:=by
 refine ⟨?_,?_,rfl⟩
 ·cases lo with
  | none=>simp [sliceBounds,HT.sIx]
  | some i =>
   simp only [sliceBounds,HT.sIx,Option.getD_none,show (1:Int) > 0 by decide,if_true]
   by_cases h:i<0
   ·simp only [h,if_true] <;> omega
   ·simp only [h,if_false] <;> omega
 ·cases hi with
  | none=>simp [sliceBounds,HT.sIx]
  | some i =>
   simp only [sliceBounds,HT.sIx,Option.getD_none,show (1:Int) > 0 by decide,if_true]
   by_cases h:i<0
   ·simp only [h,if_true] <;> omega
   ·simp only [h,if_false] <;> omega
theorem zkw (its:List Value) (lo hi:Option Int):slicePick its.toArray lo hi none=((its.drop (HT.sIx its.length 0 lo)).take (HT.sIx its.length its.length hi-HT.sIx its.length 0 lo)).toArray:=by
 obtain ⟨h1,h2,h3⟩:=zly lo hi its.toArray.size
 unfold slicePick
 rw [h1,h2,h3]
 simp only [sliceRange_one,pick_run,List.size_toArray] <;> rfl
def rSlL (K:PySem.W.Frag):V->Option Int->Option Int->Hp->VK->Prop:=fun x lo hi H Q=>∃ a xs,x = .ref a/\SqL K H a xs/\∀ p,H p=none->Q (.ref p) (upd H p (.lst (cutV xs lo hi)))
theorem zvn:SlR X (rSlL X.K):=by
 intro pins s σ H x v vl vu lo hi sl Q I rx hs pl pu h
 obtain ⟨a,xs,rfl,hx,q⟩:=h
 cases rx
 obtain ⟨its,r,ht,hz⟩:=I.list hx
 have hlen:=r.length
 refine ⟨"list", _,slot_list_getitem.lookup,ht.isList.typeIs,?_⟩
 refine wpAny_getItem_list_slice ht.isList hs pl pu .none (by simp) ?_ (by rw [List.size_toArray] <;> omega)
 rw [zkw,<- hlen]
 refine ⟨.ref s.heap.objs.size,_,I.laid (t':=s.toks) (o:=.lst (cutV xs lo hi)) (fun b ob q=>Heap.get?_push_of_some _ q) (Nat.le_refl _) ?_,rfl,q _ (I.hok.fresh (Nat.le_refl _))⟩
 exact ⟨Nat.le_trans (zno xs lo hi) hz,_,0,(r.drop (HT.sIx xs.length 0 lo)).take (HT.sIx xs.length xs.length hi-HT.sIx xs.length 0 lo),Heap.get?_push_size _ rfl⟩
def flatV:V->Bool
 | .non=>true
 | .bl _=>true
 | .int _=>true
 | .str _=>true
 | _=>false
def eqV:V->V->Bool
 | .non,.non=>true
 | .bl a,.bl b=>a == b
 | .bl a,.int b=>(if a then 1 else 0) == b
 | .int a,.bl b=>a == (if b then 1 else 0)
 | .int a,.int b=>a == b
 | .str a,.str b=>a == b
 | _,_=>false
theorem zxj {A:Around} {s:Shared} {y x:V} {u v:Value} (ry:RelV y u) (rx:RelV x v) (fy:flatV y=true) (fx:flatV x=true):SeqAt.EqAt A s u v (eqV y x):=by
 cases y with
 | non =>
  cases ry
  cases x with
  | non=>cases rx; exact SeqAt.EqAt.same _
  | bl b=>cases rx; exact SeqAt.EqAt.none_bool b
  | int b=>obtain ⟨t,rfl⟩:=rx; exact SeqAt.EqAt.none_int b t
  | str b=>obtain ⟨t,rfl⟩:=rx; exact SeqAt.EqAt.none_str b t
  | _=>exact absurd (show false=true from fx) Bool.false_ne_true
 | bl a =>
  cases ry
  cases x with
  | non=>cases rx; exact SeqAt.EqAt.bool_none a
  | bl b=>cases rx; exact SeqAt.EqAt.bool_bool a b
  | int b=>obtain ⟨t,rfl⟩:=rx; exact SeqAt.EqAt.bool_int a b t
  | str b=>obtain ⟨t,rfl⟩:=rx; exact SeqAt.EqAt.bool_str a b t
  | _=>exact absurd (show false=true from fx) Bool.false_ne_true
 | int a =>
  obtain ⟨t',rfl⟩:=ry
  cases x with
  | non=>cases rx; exact SeqAt.EqAt.int_none a t'
  | bl b=>cases rx; exact SeqAt.EqAt.int_bool a t' b
  | int b=>obtain ⟨t,rfl⟩:=rx; exact SeqAt.EqAt.int_int a t' b t
  | str b=>obtain ⟨t,rfl⟩:=rx; exact SeqAt.EqAt.int_str a t' b t
  | _=>exact absurd (show false=true from fx) Bool.false_ne_true
 | str a =>
  obtain ⟨t',rfl⟩:=ry
  cases x with
  | non=>cases rx; exact SeqAt.EqAt.str_none a t'
  | bl b=>cases rx; exact SeqAt.EqAt.str_bool a t' b
  | int b=>obtain ⟨t,rfl⟩:=rx; exact SeqAt.EqAt.str_int a t' b t
  | str b=>obtain ⟨t,rfl⟩:=rx; exact SeqAt.EqAt.str_str a t' b t
  | _=>exact absurd (show false=true from fx) Bool.false_ne_true
 | _=>exact absurd (show false=true from fy) Bool.false_ne_true
def eqU (x:V) (u:Value):Bool:=match u with
 | .none=>eqV .non x
 | .bool b=>eqV (.bl b) x
 | .int i _=>eqV (.int i) x
 | .str z _=>eqV (.str z) x
 | _=>false
theorem zup {x y:V} {u:Value} (r:RelV y u) (f:flatV y=true):eqU x u=eqV y x:=by
 cases y with
 | non=>cases r; rfl
 | bl b=>cases r; rfl
 | int i=>obtain ⟨t,rfl⟩:=r; rfl
 | str z=>obtain ⟨t,rfl⟩:=r; rfl
 | _=>exact absurd (show false=true from f) Bool.false_ne_true
theorem zir {x:V}:∀ {xs:List V} {us:List Value},Vals xs us->xs.all flatV=true->us.any (eqU x)=xs.any fun y=>eqV y x
 | _,_,.nil,_=>rfl
 | y :: xs,u :: us,.cons r t,f=>by
  rw [List.all_cons,Bool.and_eq_true] at f
  rw [List.any_cons,List.any_cons,zup r f.1,zir t f.2]
theorem zhi {A:Around} {s:Shared} {x:V} {v:Value} (rx:RelV x v) (fx:flatV x=true):∀ {xs:List V} {us:List Value},Vals xs us->xs.all flatV=true->∀ u∈us,SeqAt.EqAt A s u v (eqU x u)
 | _,_,.nil,_=>fun u hu=>by cases hu
 | y :: xs,u :: us,.cons r t,f=>fun u' hu=>by
  rw [List.all_cons,Bool.and_eq_true] at f
  rcases List.mem_cons.mp hu with rfl | hu
  ·rw [zup r f.1]; exact zxj r rx f.1 fx
  ·exact zhi rx fx t f.2 u' hu
def inV (x:V) (xs:List V):Bool:=xs.any fun y=>eqV y x
def rIn (K:PySem.W.Frag) (neg:Bool):R2:=fun x y H Q=>∃ p xs,y = .ref p/\(SqL K H p xs\/SqT K H p xs)/\flatV x=true/\xs.all flatV=true/\Q (.bl (if neg then !inV x xs else inV x xs)) H
theorem zrh:OpR X (compareOp .In) (rIn X.K false):=by
 intro pins s σ H x y v u Q I rx ry h
 obtain ⟨p,xs,rfl,hq,fx,fs,q⟩:=h
 cases ry
 rcases hq with hq | hq
 ·obtain ⟨its,r,pl,hz⟩:=I.list hq
  refine SeqAt.in_listAt (eqU x) pl.isList (fun w hw=>zhi rx fx r fs w (by simpa using hw)) ⟨.bl _,H,I,rfl,?_⟩
  rw [show its.toArray.any (eqU x)=its.any (eqU x) by simp,zir r fs]
  exact q
 ·obtain ⟨its,r,pl,hz⟩:=I.tuple hq
  refine SeqAt.in_tupleAt (eqU x) pl (fun w hw=>zhi rx fx r fs w (by simpa using hw)) ⟨.bl _,H,I,rfl,?_⟩
  rw [show its.toArray.any (eqU x)=its.any (eqU x) by simp,zir r fs]
  exact q
theorem zlz:OpR X (compareOp .NotIn) (rIn X.K true):=by
 intro pins s σ H x y v u Q I rx ry h
 obtain ⟨p,xs,rfl,hq,fx,fs,q⟩:=h
 cases ry
 rcases hq with hq | hq
 ·obtain ⟨its,r,pl,hz⟩:=I.list hq
  refine SeqAt.notIn_listAt (eqU x) pl.isList (fun w hw=>zhi rx fx r fs w (by simpa using hw)) ⟨.bl _,H,I,rfl,?_⟩
  rw [show its.toArray.any (eqU x)=its.any (eqU x) by simp,zir r fs]
  exact q
 ·obtain ⟨its,r,pl,hz⟩:=I.tuple hq
  refine SeqAt.notIn_tupleAt (eqU x) pl (fun w hw=>zhi rx fx r fs w (by simpa using hw)) ⟨.bl _,H,I,rfl,?_⟩
  rw [show its.toArray.any (eqU x)=its.any (eqU x) by simp,zir r fs]
  exact q
theorem zma:CallR X (.builtin "len") (fun xs H Q=>∃ p ys,xs = [.ref p]/\(SqL X.K H p ys\/SqT X.K H p ys)/\Q (.int ys.length) H):=by
 intro pins s σ H xs us Q I r h
 obtain ⟨p,ys,rfl,hq,q⟩:=h
 obtain ⟨u,rfl,rx⟩:=vals1 r
 cases rx
 have hn:=zow
 rcases hq with hq | hq
 ·obtain ⟨its,r',pl,hz⟩:=I.list hq
  have hlen:=r'.length
  exact Calls.call_len_list pl.isList (by simp only [List.size_toArray] <;> omega) ⟨.int ys.length,H,I.tok _,⟨s.toks+1,by rw [List.size_toArray,hlen]⟩,q⟩
 ·obtain ⟨its,r',pl,hz⟩:=I.tuple hq
  have hlen:=r'.length
  exact len_tuple pl (by simp only [List.size_toArray] <;> omega) ⟨.int ys.length,H,I.tok _,⟨s.toks+1,by rw [List.size_toArray,hlen]⟩,q⟩
theorem zmb:CallR X (.builtin "len") (fun xs H Q=>∃ z,xs = [.str z]/\z.length<=sizeLine/\Q (.int z.length) H):=by
 intro pins s σ H xs us Q I r h
 obtain ⟨z,rfl,hz,q⟩:=h
 obtain ⟨u,rfl,t,rfl⟩:=vals1 r
 have hn:=zow
 exact len_str (by omega) ⟨.int z.length,H,I.tok _,⟨_,rfl⟩,q⟩
def tyV (K:PySem.W.Frag) (T:String) (x:V) (H:Hp):Prop:=match x with
  | .str _=>T = "str"
  | .int _=>T = "int"
  | .ref p=>(T = "list" /\ ∃ xs,SqL K H p xs)\/(T = "tuple" /\ ∃ o,K.lookup p=some o/\o.cls = .type "tuple" /\ o.dict=none) \/
      (T = "dict" /\ ((∃ kvs,H p=some (.dK kvs))\/∃ kvs,H p=some (.dT kvs)))\/(T = "set" /\ ∃ S n,H p=some (.set S n))
  | _=>False
theorem zuq {pins:List (Addr×Obj)} {σ:St} {H:Hp} {s:Shared} {T:String} {x:V} {v:Value} (I:Inv X pins σ H s) (r:RelV x v) (ty:tyV X.K T x H) :
    s.TypeIs v T/\∀ a,v = .ref a->∃ ob,s.heap.get? a=some ob/\ob.dict=none:=by
  cases x with
  | str z =>
    obtain ⟨t,rfl⟩:=r
    cases (show T = "str" from ty)
    exact ⟨typeIs_str s z t,fun _ e=>nomatch e⟩
  | int i =>
    obtain ⟨t,rfl⟩:=r
    cases (show T = "int" from ty)
    exact ⟨typeIs_int s i t,fun _ e=>nomatch e⟩
  | ref p =>
    cases r
    rcases ty with ⟨rfl,xs,hq⟩ | ⟨rfl,o,hk,hc,hd⟩ | ⟨rfl,hk⟩ | ⟨rfl,S,n,hk⟩
    · obtain ⟨its,_,pl,_⟩:=I.list hq
      refine ⟨pl.isList.typeIs,fun a e=>?_⟩
      cases e
      obtain ⟨o,n,e,c,hd,_⟩:=pl
      exact ⟨o,e,hd⟩
    · refine ⟨⟨o,I.kIn p o hk,hc⟩,fun a e=>?_⟩
      cases e
      exact ⟨o,I.kIn _ o hk,hd⟩
    · have z:∃ o,s.heap.get? p=some o/\o.ExactDict:=by
        rcases hk with ⟨kvs,hk⟩ | ⟨kvs,hk⟩
        · obtain ⟨_,_,_,_,o,_,_,e,ex,_⟩:=I.hok p _ hk
          exact ⟨o,e,ex⟩
        · obtain ⟨_,_,_,_,o,_,_,e,ex,_⟩:=I.hok p _ hk
          exact ⟨o,e,ex⟩
      obtain ⟨o,e,ex⟩:=z
      refine ⟨⟨o,e,ex.1⟩,fun a e2=>?_⟩
      cases e2
      exact ⟨o,e,ex.2.1⟩
    · obtain ⟨o,_,_,_,e,ex,_⟩:=I.hok p _ hk
      refine ⟨⟨o,e,ex.1⟩,fun a e2=>?_⟩
      cases e2
      exact ⟨o,e,ex.2.1⟩
  | _=>exact False.elim ty
def tBM0 (K:PySem.W.Frag) (T:String) (r:V->List V->Hp->VK->Prop) (to:TE):TE:=fun σ H Q=>to σ H fun x H1=>tyV K T x H1/\r x [] H1 Q
def tBM (K:PySem.W.Frag) (T:String) (r:V->List V->Hp->VK->Prop) (to:TE) (t:TA):TE:=fun σ H Q=>to σ H fun x H1=>tyV K T x H1/\t σ H1 fun xs H2=>r x xs H2 Q
variable {o e:Expr} {es:List Expr} {to:TE} {t:TA} {name:Str} {apos cpos:Pos} {T id:String} {r:V->List V->Hp->VK->Prop}
theorem zxk (pa:PlainAttrs T) (slot:Slot T name id) (hty:typeOf (.builtin id)=pure (.type "method_descriptor")) (hm:MtR X id r) (ho:PE X o to)
    (hbase:attributeBase o name X.env (eval o X.env)=eval o X.env:=by rfl) (hline:(apos.endLine == cpos.line)=true:=by rfl):PE X (.Call (.Attribute o name apos) [] [] cpos) (tBM0 X.K T r to):=by
  intro pins s σ H Q I h
  refine wpAny_Call_method0_late hbase hline (thn (ho pins s σ H _ I h) fun v s1 ⟨x,H1,I1,r1,ty,q1⟩=>?_)
  obtain ⟨h1,h2⟩:=zuq I1 r1 ty
  exact ⟨T,id,pa,slot,hty,h1,h2,Calls.callWith_builtin rfl (PySem.evalArgs_none (hm pins s1 σ H1 x [] v [] Q I1 r1 .nil q1))⟩
theorem pe_bm (pa:PlainAttrs T) (slot:Slot T name id) (hty:typeOf (.builtin id)=pure (.type "method_descriptor")) (hm:MtR X id r) (ho:PE X o to) (ha:PA X (e :: es) t)
    (hbase:attributeBase o name X.env (eval o X.env)=eval o X.env:=by rfl)
    (hfew:((backTo cpos (starEach (e :: es) X.env)).all (fun x=>!x.1) && (backToKw cpos (keywordEach [] X.env)).all (fun x=>x.1.isSome)
      && decide ((e :: es).length+([]:List Keyword).length+(if ([]:List Keyword).isEmpty then 0 else 1)<30))=true:=by rfl)
    (hline:(apos.endLine == cpos.line)=true:=by rfl) (hs:starEach (e :: es) X.env=(false,eval e X.env) :: starEach es X.env:=by rfl) (hplain:(backTo cpos (starEach es X.env)).any (·.1)=false:=by rfl) :
    PE X (.Call (.Attribute o name apos) (e :: es) [] cpos) (tBM X.K T r to t):=by
  intro pins s σ H Q I h
  refine wpAny_Call_method_late hbase hfew hline rfl (thn (ho pins s σ H _ I h) fun v s1 ⟨x,H1,I1,r1,ty,q1⟩=>?_)
  obtain ⟨h1,h2⟩:=zuq I1 r1 ty
  refine ⟨T,id,pa,slot,hty,h1,h2,?_⟩
  have hA:=ha cpos pins s1 σ H1 _ I1 q1
  rw [hs] at hA ⊢
  refine Calls.callWith_builtin (by show (false || (backTo cpos (starEach es X.env)).any (·.1))=false; rw [hplain] <;> rfl) (Calls.evalArgs_plain ?_)
  exact thn hA fun us s2 ⟨vs,H2,I2,r2,q2⟩=>hm pins s2 σ H2 x vs v us Q I2 r1 r2 q2
end
end L2
namespace L2
open PySem PySem.Spec PyProof.Rows
def MtM (X:Cx) (id:String) (r:V->List V->Hp->VK->Prop):Prop :=
 ∀ (pins:List (Addr×Obj)) (s:Shared) (σ:St) (H:Hp) (x:V) (xs:List V) (v:Value) (us:List Value) (Q:VK),Inv X pins σ H s->RelV x v->Vals xs us->r x xs H Q ->
  wpAny (model X.prog X.w) X.A (call (.builtin id) (v :: us)) (EP X pins σ Q) X.xe s
theorem Vals.one:∀ {x:V} {us:List Value},Vals [x] us->∃ u,us = [u]/\RelV x u
 | _,_,.cons r .nil=>⟨_,rfl,r⟩
theorem Vals.two:∀ {x y:V} {us:List Value},Vals [x,y] us->∃ u v,us = [u,v]/\RelV x u/\RelV y v
 | _,_,_,.cons r (.cons q .nil)=>⟨_,_,rfl,r,q⟩
theorem Vals.zero:∀ {us:List Value},Vals [] us->us = []
 | _,.nil=>rfl
theorem Vals.reverse {xs:List V} {us:List Value} (h:Vals xs us):Vals xs.reverse us.reverse:=by
 induction h with
 | nil=>exact .nil
 | cons r t ih=>rw [List.reverse_cons,List.reverse_cons]; exact Vals.append ih (.cons r .nil)
theorem Vals.rep {xs:List V} {us:List Value} (h:Vals xs us):∀ k:Nat,Vals (List.replicate k xs).flatten (List.replicate k us).flatten
 | 0=>.nil
 | k+1=>by
  rw [List.replicate_succ,List.replicate_succ,List.flatten_cons,List.flatten_cons]
  exact Vals.append h (Vals.rep h k)
theorem zmc (its:List Value):∀ (k:Nat) (acc:List Value),
    List.foldl (fun x1 x2=>x1++x2) acc.toArray (List.replicate k its.toArray)=(acc++(List.replicate k its).flatten).toArray
  | 0,acc=>by simp
  | k+1,acc=>by
    have e:acc.toArray++its.toArray=(acc++its).toArray:=by simp
    have e2:(acc++its)++(List.replicate k its).flatten=acc++(List.replicate (k+1) its).flatten:=by
      rw [List.replicate_succ,List.flatten_cons,List.append_assoc]
    rw [<- e2,<- zmc its k (acc++its),<- e,List.replicate_succ,List.foldl_cons]
section
variable {X:Cx} {pins:List (Addr×Obj)} {σ:St} {H:Hp} {s:Shared} {l b:Addr} {xs ys zs:List V}
theorem Inv.lset {its its':List Value} {n:Nat} {f:Array Value->Array Value} {t':Nat} (I:Inv X pins σ H s) (hH:H l=some (.lst xs))
    (e:s.heap.get? l=some { cls:=.type "list", data:=.seq its.toArray n }) (hf:f its.toArray=its'.toArray) (hv:Vals ys its') (hz:ys.length<=sizeLine) :
    Inv X pins σ (upd H l (.lst ys)) { s with heap:=s.heap.update l (Obj.mapSeq f),toks:=t' }:=by
  have q:=PySem.IsL.update e f
  rw [hf] at q
  refine I.write (x:=l) (e:=l) (by rw [hH]; exact trivial) (.inl rfl) (fun b' u hb hu=>(Heap.get?_update_other s.heap (Obj.mapSeq f) (Ne.symm hb)).trans hu) ⟨_,q⟩ ?_
  exact ⟨hz,its',_,hv,q⟩
theorem Inv.lnew {its:List Value} {t':Nat} (I:Inv X pins σ H s) (hv:Vals ys its) (hz:ys.length<=sizeLine) :
    Inv X pins σ (upd H s.heap.objs.size (.lst ys)) { s with heap:=s.heap.push { cls:=.type "list", data:=.seq its.toArray },toks:=t' } :=
  I.laid (fun _ _ q=>Heap.get?_push_of_some _ q) (Nat.le_refl _) ⟨hz,its,0,hv,Heap.get?_push_size _ rfl⟩
theorem Inv.fresh (I:Inv X pins σ H s):H s.heap.objs.size=none:=I.hok.fresh (Nat.le_refl _)
theorem Inv.lstM (I:Inv X pins σ H s) (hH:H l=some (.lst xs)):xs.length<=sizeLine/\∃ (its:List Value) (n:Nat),Vals xs its/\xs.length=its.length/\s.heap.get? l=some { cls:=.type "list", data:=.seq its.toArray n }:=by
 obtain ⟨z,its,n,r,e⟩:=I.hok l _ hH
 exact ⟨z,its,n,r,r.length,e⟩
theorem ztf {n:Nat} (h:n<=sizeLine):Builtin.List.listTooLong n=false:=by
 unfold Builtin.List.listTooLong
 exact decide_eq_false (by omega)
end
section
variable {X:Cx}
def zri:V->List V->Hp->VK->Prop:=fun x vs H Q=>∃ l xs y,x = .ref l/\vs = [y]/\H l=some (.lst xs)/\xs.length<sizeLine/\Q .non (upd H l (.lst (xs++[y])))
theorem zen:MtM X "list.append" zri:=by
 intro pins s σ H x vs v us Q I rx rv h
 obtain ⟨l,xs,y,rfl,rfl,hH,hz,q⟩:=h
 cases rx
 obtain ⟨u,rfl,ru⟩:=rv.one
 obtain ⟨z,its,n,r,hl,e⟩:=I.lstM hH
 refine call_meets F.slot_list_append ⟨_,e,rfl⟩ F.entry_list_append (F.args_list_append_2 _ _) (PySem.list_append l its.toArray n u (by rw [List.size_toArray]; omega)) ⟨e,?_⟩
 refine ⟨.non,_,I.lset (its':=its++[u]) hH e (by simp) (r.append (.cons ru .nil)) ?_,rfl,q⟩
 rw [List.length_append,List.length_singleton]
 omega
def ztg:V->List V->Hp->VK->Prop:=fun x vs H Q=>∃ l xs,x = .ref l/\vs = []/\H l=some (.lst xs)/\Q .non (upd H l (.lst xs.reverse))
theorem zqd:MtM X "list.reverse" ztg:=by
 intro pins s σ H x vs v us Q I rx rv h
 obtain ⟨l,xs,rfl,rfl,hH,q⟩:=h
 cases rx
 have hus:=rv.zero
 subst hus
 obtain ⟨z,its,n,r,hl,e⟩:=I.lstM hH
 refine call_meets F.slot_list_reverse ⟨_,e,rfl⟩ F.entry_list_reverse (F.args_list_reverse_1 _) (AutoSeq1.list_reverse_list_0 l its.toArray n (by rw [List.size_toArray]; omega)) ⟨e,?_⟩
 refine ⟨.non,_,I.lset (its':=its.reverse) hH e (by simp) r.reverse ?_,rfl,q⟩
 rw [List.length_reverse]
 omega
def rCat:R2:=fun x y H Q=>∃ l b xs zs,x = .ref l/\y = .ref b/\H l=some (.lst xs)/\H b=some (.lst zs)/\xs.length+zs.length<=sizeLine/\∀ p,H p=none->Q (.ref p) (upd H p (.lst (xs++zs)))
theorem zrj:OpR X (binaryOp .Add) rCat:=by
 intro pins s σ H x y v u Q I rx ry h
 obtain ⟨l,b,xs,zs,rfl,rfl,hH,hB,hz,q⟩:=h
 cases rx
 cases ry
 obtain ⟨z,its,n,r,hl,e⟩:=I.lstM hH
 obtain ⟨z2,its2,n2,r2,hl2,e2⟩:=I.lstM hB
 refine PySem.P.add_list e e2 ?_ (by rw [List.size_toArray,List.size_toArray]; omega)
 have ea:its.toArray++its2.toArray=(its++its2).toArray:=by simp
 rw [ea]
 exact ⟨.ref _,_,I.lnew (t':=s.toks) (r.append r2) (by rw [List.length_append]; omega),rfl,q _ I.fresh⟩
def rRep:R2:=fun x y H Q=>∃ l k xs,x = .ref l/\y = .int k/\H l=some (.lst xs)/\-(2 ^ 63)<=k/\k<2 ^ 63/\xs.length*k.toNat<=sizeLine /\
 ∀ p,H p=none->Q (.ref p) (upd H p (.lst (List.replicate k.toNat xs).flatten))
theorem zrk {α:Type} (xs:List α) (k:Nat):(List.replicate k xs).flatten.length=k*xs.length:=by
 induction k with
 | zero=>simp
 | succ k ih=>rw [List.replicate_succ,List.flatten_cons,List.length_append,ih,Nat.succ_mul,Nat.add_comm]
theorem zxl:OpR X (binaryOp .Mult) rRep:=by
 intro pins s σ H x y v u Q I rx ry h
 obtain ⟨l,k,xs,rfl,rfl,hH,h1,h2,hz,q⟩:=h
 cases rx
 obtain ⟨t,rfl⟩:=ry
 obtain ⟨z,its,n,r,hl,e⟩:=I.lstM hH
 have hlen:its.toArray.size*k.toNat<=sizeLine:=by rw [List.size_toArray,<- hl]; exact hz
 have hcap:¬ its.toArray.size*k.toNat > (2 ^ 63-1) / 8:=by
  have:(sizeLine:Nat)<=(2 ^ 63-1) / 8:=by decide
  omega
 have hfit:¬ (!Builtin.List.listFitsIndex k)=true:=by
  rw [fitsIndex_both h1 h2]
  exact Bool.false_ne_true
 have hlong:¬ Builtin.List.listTooLong (its.toArray.size*k.toNat)=true:=by
  rw [ztf hlen]
  exact Bool.false_ne_true
 have hnew:List.foldl (fun x1 x2=>x1++x2) #[] (List.replicate (if its.toArray.isEmpty=true then 0 else k.toNat) its.toArray)=(List.replicate k.toNat its).flatten.toArray:=by
  have f0:∀ m:Nat,List.foldl (fun x1 x2=>x1++x2) #[] (List.replicate m its.toArray)=(List.replicate m its).flatten.toArray:=fun m=>by
   have:=zmc its m []
   rw [List.nil_append] at this
   exact this
  rw [f0]
  cases its with
  | nil=>simp
  | cons a r'=>rw [if_neg (by simp)]
 refine wpAny_binaryOp_repeat_ref (T := "list") (U := "int") (by decide) ⟨_,e,rfl⟩ (fun s'=>typeIs_int s' k t) noFill_list_mul F.fills_int_mul F.slot_int_rmul repeat_list F.slot_int_index.lookup
  (call_meets F.slot_int_rmul (typeIs_int s k t) F.entry_int_rmul (F.args_int_rmul_2 _ _) (int___rmul___int_list k t l its.toArray n)
   ⟨e,rfl,⟨_,e,rfl⟩,call_meets F.slot_list_mul ⟨_,e,rfl⟩ F.entry_list_mul (F.args_list_mul_2 _ _) (AutoListH.list___mul___list_int_3 l its.toArray n k t hfit hcap hlong) ⟨e,?_⟩⟩)
 rw [hnew]
 exact ⟨.ref _,_,I.lnew (t':=s.toks) (r.rep k.toNat) (by rw [zrk,Nat.mul_comm]; exact hz),rfl,q _ I.fresh⟩
end
section
variable {prog:Program} {w:World} {A:Around} {E:Value->Shared->Prop} {s:Shared}
end
section
variable {X:Cx}
end
end L2
namespace Att
open PySem PySem.W PySem.Calls PyProof.Rows
theorem zis {P:Params} {h:Heap}:∀ (ns:List Int) (vs:List Value),WellAll P h vs (ns.map WData.int)->IntsAre vs ns:=by
 intro ns
 induction ns with
 | nil =>
  intro vs w
  rw [List.map_nil] at w
  cases w
  exact .nil
 | cons n ns ih =>
  intro vs w
  rw [List.map_cons] at w
  cases w with
  | cons a b =>
   cases a
   exact .cons _ _ (ih _ b)
theorem zrl {l:OpenLaw} {n:Nat} (hn:l.most=some n) {P:Params} {h:Heap} {args:List WData} {vals:List Value}
    (hpre:l.row.toRowW.claim.pre args=true) (hwl:WellAll P h vals args) :
    ∃ a vs ns,vals = [Value.ref a]/\args = [WData.list (ns.map WData.int)]/\h.get? a=some { cls:=.type "list", data:=.seq vs.toArray }/\IntsAre vs ns/\ns.length<=n:=by
  have hsh:WShape.hasAll [] args [.list .int] = true:=(pre_splitW hpre).1
  have hc:l.pre.holds [] { args:=args } = true:=(pre_splitW hpre).2
  obtain ⟨d,r,rfl,h1,h2⟩:=hasAllW_cons hsh
  obtain rfl:=hasAllW_nil h2
  obtain ⟨xs,rfl,h3⟩:=hasW_list h1
  obtain ⟨ns,rfl⟩:=items_int h3
  have hlen:ns.length<=n:=by
    unfold OpenLaw.pre at hc
    have h4:(WTm.not (.lt (.lit (.int (n:Int))) (.len (.arg 0)))).holds [] { args:=[.list (ns.map .int)] } = true:=by
      have h4:=(holds_andW hc).1
      rw [hn] at h4
      exact h4
    have h5:=condW_of h4 (w_not (w_lt w_lit (w_len_list (w_arg rfl))))
    rw [List.length_map] at h5
    refine Nat.le_of_not_lt fun q=>?_
    have q':(n:Int)<((ns.length:Nat):Int):=by omega
    first
      | (rw [decide_eq_true q'] at h5; exact absurd h5 (by decide))
      | (simp at h5; omega)
  cases hwl with
  | cons w1 w2 =>
    cases w2
    cases w1 with
    | list ho hall=>exact ⟨_,_,ns,rfl,rfl,ho,zis ns _ hall,hlen⟩
theorem zrm (l:OpenLaw) (args:List WData):l.row.toRowW.claim.post args (.bool true) args=true :=
 postW_of (r:=l.row.toRowW) (X:=(true == true))
  (show WShape.has [] (.bool true) .bool=true by first | rfl | decide | simp [WShape.has,WShape.arms,WShape.armsAll])
  (show (WTm.eq .res (.lit (.bool true))).value [] { args:=args,res:=some (.bool true),after:=args } = some (.bool (true == true)) from w_eq_bool (w_res rfl) w_lit) rfl
theorem attach_call {l:OpenLaw} {n:Nat} {q:Program} {loose:List Str} {XP:(Str->Option Value)->Heap->Prop} {YP:World->Heap->Prop} {d:DefRec}
    (hn:l.most=some n) (hdf:d.params.defaults = [])
    (call:∀ (w:World) (s₀ s₁:Shared) (mg mb:Str->Option Value) (fa:Addr) (o:Obj) (pm cd doc:Value) (a:Addr) (vs:List Value) (ns:List Int),
      Ground q loose [] XP w s₀ mg mb s₁.heap->YP w s₁.heap ->
      s₁.heap.get? fa=some o->o.data = .func (docDef d.name d.params d.body d.scope pm cd doc)->s₁.heap.CodeRec cd d.name->mg d.name=some (.ref fa) ->
      s₁.heap.get? a=some { cls:=.type "list", data:=.seq vs.toArray }->IntsAre vs ns->ns.length<=n->s₁.gens = #[] ->
      codeAny (model l.prog w) callerA (.call (.ref fa) ⟨[.ref a],[]⟩) (fun r s'=>r = .ok (.ret (.bool true))/\OldK s₁.heap s'.heap/\s'.os=s₁.os/\AllBare s'.gens) s₁) :
    WalkO q loose XP YP l.row.toRowW d [] (fun f vs=>PySem.call f vs):=by
  intro w s₀ s₁ mg mb G Y fa o pm cd doc dV kV ho hd hcd hD hmg hg args vals as hpre hlay hrd hwl hlo
  obtain rfl:dV = .none:=Dflts.none hD hdf
  obtain rfl:kV = .none:=Dflts.noKw hD
  obtain ⟨a,vs,ns,rfl,rfl,hobj,hints,hlen⟩:=zrl hn hpre hwl
  refine enter_call (codeAny_mono (call w s₀ s₁ mg mb fa o pm cd doc a vs ns G Y ho (fd_plain hd) hcd hmg hobj hints hlen hg) fun r s' hq=>?_)
  obtain ⟨rfl,h2,h3,h4⟩:=hq
  exact ⟨.inl ⟨.bool true,.bool true,[],rfl,fun _=>rfl,.bool true,zrm l _,fun _=>⟨List.Pairwise.nil,fun _ hm=>(nomatch hm)⟩⟩,h2,h3,h4⟩
section
variable {prog:Program} {w:World} {A:Around} {E:Value->Shared->Prop} {s:Shared} {K:Frag}
end
end Att
namespace L2
open PySem PySem.Spec PyProof.Rows
theorem zmd:∀ {vs:List Value} {ns:List Int},IntsAre vs ns->Vals (ns.map V.int) vs
 | _,_,.nil=>.nil
 | _,_,.cons n t h=>.cons ⟨t,rfl⟩ (zmd h)
def Only (H:Hp):Prop:=∀ b,H b=none\/∃ o xs,H b=some (.frz o (.lst xs))
theorem law_call {P:Program} {w:World} {K:PySem.W.Frag} {mg mb:Str->Option Value} {CX:CXT} {k:Nat} {fa a:Addr} {fd:FuncData} {x:Str} {sp:Sp} {s₁:Shared} {vs:List Value} {ns:List Int}
    (KX:K.In s₁.heap) (hns:s₁.heap.Ns mainGlobals mg) (hb:s₁.heap.Ns builtinsNs mb) (hbb:∀ x:Str,x ≠ "__name__" -> mb x=bootBuiltins x) (hlim:s₁.heap.NoLimit) (hg:s₁.gens = #[])
    (ha:s₁.heap.get? a=some { cls:=.type "list", data:=.seq vs.toArray }) (hi:IntsAre vs ns) (hl:ns.length<=sizeLine) (hr:Room k callerA)
    (F:∀ base:Heap,K.In base->base.Ns mainGlobals mg->FnOk P w K mg base CX k fa fd [x] sp) (hbind:∀ (s:Shared) (u:Value),BindsTo s fd ⟨[u],[]⟩ [(x,u)])
    (hsp:∀ H:Hp,Only H->SqL K H a (ns.map V.int)->sp [.ref a] H (fun v _=>v = .bl true) fun _ _ _=>False)
    (hCX:∀ H e s',CX [] H s₁ (fun _ _ _=>False) e s'->False) :
    codeAny (model P w) callerA (.call (.ref fa) ⟨[.ref a],[]⟩) (fun r s'=>r = .ok (.ret (.bool true))/\OldK s₁.heap s'.heap/\s'.os=s₁.os/\AllBare s'.gens) s₁:=by
  have rv:=zmd hi
  have lenV:=hi.length
  have core:∀ H:Hp,Only H->SqL K H a (ns.map V.int)->HOk P w H s₁.heap->(∀ b,H b≠none->b=a)->(H a≠none->K.lookup a=none) ->
      codeAny (model P w) callerA (.call (.ref fa) ⟨[.ref a],[]⟩) (fun r s'=>r = .ok (.ret (.bool true))/\OldK s₁.heap s'.heap/\s'.os=s₁.os/\AllBare s'.gens) s₁:=by
    intro H hO hS hok hA hK
    have base_of:∀ {b:Addr} {o:Obj},s₁.heap.get? b=some o->H b=none->(hidT s₁.heap H).get? b=some o:=fun e n=>zsy e n
    have noA:∀ {b:Addr} {o:Obj} {es:Array DictEntry} {ep:Nat},s₁.heap.get? b=some o->o.data = .dict es ep->H b=none:=fun {b o es ep} e d=>by
      cases q:H b with
      | none=>rfl
      | some u =>
        have e':b=a:=hA b (by rw [q]; simp)
        subst e'
        rw [ha] at e; cases e
        have d':Data.seq vs.toArray _=Data.dict es ep:=d
        cases d'
    have nsK:∀ {b:Addr} {m:Str->Option Value},s₁.heap.Ns b m->(hidT s₁.heap H).Ns b m:=fun {b m} ⟨o,es,ep,e,d,r⟩=>⟨o,es,ep,base_of e (noA e d),d,r⟩
    have hKb:K.In (hidT s₁.heap H):=fun b o e=>base_of (KX b o e) (by
      cases q:H b with
      | none=>rfl
      | some u =>
        have e':b=a:=hA b (by rw [q]; simp)
        subst e'
        rw [hK (by rw [q]; simp)] at e; cases e)
    have hM:Mod K mg (hidT s₁.heap H):=⟨hKb,nsK hns,⟨mb,nsK hb,hbb⟩,let ⟨mc,h1,h2⟩:=hlim; ⟨mc,nsK h1,h2⟩⟩
    have e0:Env0 P w K mg (hidT s₁.heap H) callerA [] s₁ H:=⟨rfl,hM,fun b o e=>zve e,Nat.le_of_eq (zqp _ _),trivial,fun b hb=>absurd (show b∈([]:List Addr) from hb) (by simp),hok,.of_eq hg⟩
    refine codeAny_mono ((F _ hKb (nsK hns)).run callerA [] s₁ H ⟨[.ref a],[]⟩ [.ref a] [.ref a] _ _ hr e0 (hbind s₁ (.ref a)) (.cons rfl .nil) (hsp H hO hS)) fun r s' h=>?_
    cases r with
    | error e=>exact (hCX H e s' h).elim
    | ok fl =>
      cases fl with
      | next=>exact False.elim h
      | brk=>exact False.elim h
      | cont=>exact False.elim h
      | ret u =>
        obtain ⟨v,H',os,bare,un,hok',r',q⟩:=h
        have q':v = .bl true:=q
        subst q'
        obtain rfl:u=Value.bool true:=r'
        refine ⟨rfl,OldK.of_keep fun b o e=>?_,os,bare⟩
        cases q:H b with
        | none=>exact un.keep b o e q (by intro z; exact absurd (show b∈([]:List Addr) from z) (by simp)) (by simp)
        | some u =>
          rcases hO b with z | ⟨ob,xs,z⟩
          · rw [q] at z; cases z
          · have z2:=un.frzs b ob _ z
            obtain ⟨e1,_⟩:=hok b _ z
            obtain ⟨e2,_⟩:=hok' b _ z2
            rw [e] at e1; cases e1
            exact e2
  cases hk:K.lookup a with
  | some o =>
    have e:=KX a o hk
    rw [ha] at e
    cases e
    refine core (fun _=>none) (fun _=>.inl rfl) (.inr ⟨_,vs.toArray,_,hk,rfl,rfl,rfl,by rw [List.size_toArray,lenV]; exact hl,by simpa using rv⟩) (fun b u z=>by have z':(none:Option HO)=some u:=z; cases z') (fun b z=>absurd rfl z) fun z=>absurd rfl z
  | none =>
    refine core (fun b=>if b=a then some (.frz { cls:=.type "list", data:=.seq vs.toArray } (.lst (ns.map V.int))) else none) (fun b=>?_) (.inl (.inr ⟨{ cls:=.type "list", data:=.seq vs.toArray },if_pos rfl⟩)) (fun b u z=>?_) (fun b z=>?_) fun _=>hk
    · by_cases hb:b=a
      · exact .inr ⟨_,_,if_pos hb⟩
      · exact .inl (if_neg hb)
    · by_cases hb:b=a
      · have z':=(if_pos hb).symm.trans z
        cases z'
        subst hb
        exact ⟨ha,by rw [List.length_map]; exact hl,vs,_,rv,ha⟩
      · have z':=(if_neg hb).symm.trans z
        cases z'
    · by_cases hb:b=a
      · exact hb
      · exact absurd (if_neg hb) z
end L2
namespace L2
open PySem PySem.Spec PyProof.Rows
abbrev KOf {K:PySem.W.Frag} {h:Heap} (_:K.In h):PySem.W.Frag:=K
theorem walk_of {l:PySem.W.OpenLaw} {n k:Nat} {q:Program} {loose:List Str} {XP:(Str->Option Value)->Heap->Prop} {YP:World->Heap->Prop} {d:DefRec} {K:Params->PySem.W.Frag} {CX:World->CXT} {sp:World->Sp} {x:Str}
    (hn:l.most=some n) (hn2:n<=sizeLine) (hdf:d.params.defaults = []) (hr:Room k callerA)
    (hY:∀ (w:World) (h:Heap),YP w h->(K w.params).In h)
    (F:∀ (w:World) (mg:Str->Option Value) (fa:Addr) (h:Heap),(K w.params).In h->h.Ns mainGlobals mg->mg d.name=some (.ref fa) ->
      ∃ fd:FuncData,(∀ (s:Shared) (u:Value),BindsTo s fd ⟨[u],[]⟩ [(x,u)]) /\
        ∀ base:Heap,(K w.params).In base->base.Ns mainGlobals mg->FnOk l.prog w (K w.params) mg base (CX w) k fa fd [x] (sp w))
    (hsp:∀ (w:World) (H:Hp) (a:Addr) (ns:List Int),ns.length<=n->Only H->SqL (K w.params) H a (ns.map V.int)->sp w [.ref a] H (fun v _=>v = .bl true) fun _ _ _=>False)
    (hCX:∀ (w:World) (H:Hp) (s:Shared) (e:Value) (s':Shared),CX w [] H s (fun _ _ _=>False) e s'->False) :
    PySem.W.WalkO q loose XP YP l.row.toRowW d [] (fun f vs=>PySem.call f vs):=by
  refine Att.attach_call hn hdf fun w s₀ s₁ mg mb fa o pm cd doc a vs ns G Y ho hd hcd hmg hobj hints hlen hg=>?_
  have KX:=hY w _ Y
  obtain ⟨fd,hb,hF⟩:=F w mg fa _ KX G.T.g hmg
  exact law_call KX G.T.g G.T.b G.T.builtins G.T.nolimit hg hobj hints (Nat.le_trans hlen hn2) hr hF hb (fun H hO hS=>hsp w H a ns hlen hO hS) fun H e s'=>hCX w H s₁ e s'
end L2
namespace L2
open PySem PySem.Spec PyProof.Rows
def zay (s:Stmt) (j:Nat):Stmt:=match s with
 | .ClassDef _ _ _ body _ _ _ _ _ _ _=>body.getD j (.Pass ⟨0,0,0,0⟩)
 | _=>.Pass ⟨0,0,0,0⟩
def zam (s:Stmt):Arguments:=match s with
 | .FunctionDef _ a _ _ _ _ _ _ _ _=>a
 | _=>{ posonlyargs:=[],args:=[],vararg:=none,kwonlyargs:=[],kw_defaults:=[],kwarg:=none,defaults:=[] }
def zal (s:Stmt):List Stmt:=match s with
 | .FunctionDef _ _ b _ _ _ _ _ _ _=>b
 | _=>[]
def zac (s:Stmt):Scope:=match s with
 | .FunctionDef _ _ _ _ _ _ sc _ _ _=>sc
 | _=>{ kind:=.function,names:=[],isGenerator:=false,isCoroutine:=false }
abbrev CX0:CXT:=fun _ _ _ _ _ _=>False
abbrev E0:XK:=fun _ _ _=>False
structure Fun (K:PySem.W.Frag) (x qual:Str) (st:Stmt) (f:Addr) (fd:FuncData):Prop where
 ex:∃ (oc:Value) (od:Option Addr) (kV doc pm:Value) (an:Option Addr) (cdv ct:Value) (osl:Array (Option Value)),
  fd=PySem.W.fnOf x qual (zam st) (zal st) (zac st) .none kV doc pm an cdv ct/\K.lookup f=some ⟨oc,od,.func fd,osl⟩/\PySem.W.codeIn K cdv qual=true
 kp:PySem.W.keepIn K (.ref f)=true
section
variable {P:Program} {w:World} {K:PySem.W.Frag} {mg:Str->Option Value} {base:Heap}
theorem Fun.ok {x qual:Str} {st:Stmt} {f:Addr} {fd:FuncData} {N ps:List Str} {k:Nat} {sp:Sp} (F:Fun K x qual st f fd) (S:FnScope N ps (zac st)) (len:∀ vs H Q E,sp vs H Q E->vs.length=ps.length)
    (hbody:∀ (cdv:Value) (A:Around) (outer:List Env) (s:Shared) (H:Hp) (vs:List V) (Q:VK) (E:XK),Room k (A.deeper (envOfC qual (zac st) s.heap.objs.size f cdv))->sp vs H Q E ->
      ∃ t,PSs (cxOf CX0 P w K mg base N qual (zac st) f cdv A outer s H E).nox (zal st) t/\t { nx:=fun _ H'=>Q .non H',rt:=Q } (start N vs) H):FnOk P w K mg base CX0 (k+1) f fd ps sp:=by
  obtain ⟨oc,od,kV,doc,pm,an,cdv,ct,osl,rfl,lk,hcd⟩:=F.ex
  refine fn_of lk hcd S len fun A outer s H vs Q E hr hsp=>?_
  obtain ⟨t,h,q⟩:=hbody cdv A outer s H vs Q E hr hsp
  exact ⟨t,h.nox,q⟩
theorem Fun.binds {x qual:Str} {st:Stmt} {f:Addr} {fd:FuncData} {ps:List Str} (F:Fun K x qual st f fd)
    (h:∀ (kV doc pm:Value) (an:Option Addr) (cdv ct:Value) (us:List Value),us.length=ps.length->bindArgs (PySem.W.fnOf x qual (zam st) (zal st) (zac st) .none kV doc pm an cdv ct) ⟨us,[]⟩ = pure (ps.zip us)):Binds K fd ps []:=by
  obtain ⟨oc,od,kV,doc,pm,an,cdv,ct,osl,rfl,lk,hcd⟩:=F.ex
  exact .all (h kV doc pm an cdv ct)
theorem zat {x qual:Str} {st:Stmt} {f:Addr} {oc:Value} {od an:Option Addr} {osl:Array (Option Value)} {kV doc pm cdv ct:Value} (l:K.lookup f=some ⟨oc,od,.func (PySem.W.fnOf x qual (zam st) (zal st) (zac st) .none kV doc pm an cdv ct),osl⟩)
    (c:PySem.W.codeIn K cdv qual=true) (k:PySem.W.keepIn K (.ref f)=true):Fun K x qual st f (PySem.W.fnOf x qual (zam st) (zal st) (zac st) .none kV doc pm an cdv ct):=⟨⟨oc,od,kV,doc,pm,an,cdv,ct,osl,rfl,l,c⟩,k⟩
end
theorem hu_of {A:Around} {k:Nat} (hr:Room k A):A.units+1<cLine:=Nat.lt_of_le_of_lt (Nat.add_le_add_left (by decide:1<=64) _) hr.units
section
variable {X:Cx}
theorem pv (i:Nat) {x:Str} {pos:Pos} (hN:X.N[i]? = some x:=by rfl) (hv:Vis X.env.scope x:=by first | exact Or.inl rfl | exact Or.inr (Or.inl rfl) | exact Or.inr (Or.inr rfl)) (hd:(x == ("__debug__" : Str))=false:=by decide)
    (hcd:(x == ("__classdict__" : Str))=false:=by decide):PE X (.Name x pos) (tVar i):=zxd hN hv hd hcd
end
theorem iteF {A B:Prop} (h:B):if false=true then A else B:=by
 rw [if_neg Bool.false_ne_true]
 exact h
theorem iteT {A B:Prop} (h:A):if true=true then A else B:=by
 rw [if_pos rfl]
 exact h
theorem ite2 {c A B:Prop} [Decidable c] (h1:c->A) (h2:¬ c->B):if c then A else B:=by
 by_cases h:c
 ·rw [if_pos h]
  exact h1 h
 ·rw [if_neg h]
  exact h2 h
def Same (H H':Hp):Prop:=∀ b o,H b=some o->H' b=some o
theorem Same.refl (H:Hp):Same H H:=fun _ _ h=>h
theorem Same.trans {H H1 H2:Hp} (a:Same H H1) (b:Same H1 H2):Same H H2:=fun c o h=>b c o (a c o h)
theorem Same.free {H H':Hp} (e:Same H H') {l:Addr} (h:H' l=Option.none):H l=Option.none:=by
 cases q:H l with
 | none=>rfl
 | some o =>
  rw [e l o q] at h
  cases h
theorem Same.seq {K:PySem.W.Frag} {H H':Hp} {a:Addr} {xs:List V} (e:Same H H') (h:SqL K H a xs):SqL K H' a xs:=by
 rcases h with (h | ⟨o,h⟩) | h
 ·exact .inl (.inl (e _ _ h))
 ·exact .inl (.inr ⟨o,e _ _ h⟩)
 ·exact .inr h
end L2
set_option maxHeartbeats 4000000
namespace L2
open PySem PySem.Spec PyProof.Rows
theorem elc {α:Type} {P:List α->Prop} {n:Nat} (h:∀ x r,r.length=n->P (x :: r)):∀ us:List α,us.length=n+1->P us
 | [],e=>absurd e (by simp)
 | x :: r,e=>h x r (by simpa using e)
theorem el0 {α:Type} {P:List α->Prop} (h:P []):∀ us:List α,us.length = 0->P us
 | [],_=>h
 | _ :: _,e=>absurd e (by simp)
theorem el1 {α:Type} {P:List α->Prop} (h:∀ x0,P [x0]):∀ us:List α,us.length = 1->P us:=elc fun x r e=>el0 (P:=fun r=>P (x :: r)) (h x) r e
theorem el2 {α:Type} {P:List α->Prop} (h:∀ x0 x1,P [x0,x1]):∀ us:List α,us.length = 2->P us:=elc fun x r e=>el1 (P:=fun r=>P (x :: r)) (h x) r e
theorem el3 {α:Type} {P:List α->Prop} (h:∀ x0 x1 x2,P [x0,x1,x2]):∀ us:List α,us.length = 3->P us:=elc fun x r e=>el2 (P:=fun r=>P (x :: r)) (h x) r e
theorem el4 {α:Type} {P:List α->Prop} (h:∀ x0 x1 x2 x3,P [x0,x1,x2,x3]):∀ us:List α,us.length = 4->P us:=elc fun x r e=>el3 (P:=fun r=>P (x :: r)) (h x) r e
theorem el5 {α:Type} {P:List α->Prop} (h:∀ x0 x1 x2 x3 x4,P [x0,x1,x2,x3,x4]):∀ us:List α,us.length = 5->P us:=elc fun x r e=>el4 (P:=fun r=>P (x :: r)) (h x) r e
end L2
namespace Sw
def dv (a b:Int):Int:=(Int.gcd a b:Nat)
theorem dv_nn (a b:Int):0<=dv a b:=Int.natCast_nonneg _
theorem dv_l (a b:Int):dv a b ∣ a:=Int.gcd_dvd_left a b
theorem dv_r (a b:Int):dv a b ∣ b:=Int.gcd_dvd_right a b
theorem zrn (a b:Int):dv (-a) b=dv a b:=by unfold dv; rw [Int.neg_gcd]
theorem zro (a b:Int):dv a (-b)=dv a b:=by unfold dv; rw [Int.gcd_neg]
theorem dv_zero (a:Int) (h:0<=a):dv a 0=a:=by
 unfold dv; rw [Int.gcd_zero_right]; omega
theorem zxm {a b:Int} (h:dv a b = 0):a = 0/\b = 0:=by
 unfold dv at h
 exact Int.gcd_eq_zero_iff.mp (by omega)
theorem dv_pos {a b:Int} (h:b≠0):0<dv a b:=by
 have:=dv_nn a b
 rcases Int.lt_or_eq_of_le this with q | q
 ·exact q
 ·exact absurd (zxm q.symm).2 h
theorem zur {a b c:Int} (h1:c ∣ a) (h2:c ∣ b):c ∣ dv a b:=Int.dvd_coe_gcd h1 h2
theorem zxn {a b c d:Int} (h:∀ x:Int,(x ∣ a/\x ∣ b)↔(x ∣ c/\x ∣ d)):dv a b=dv c d:=by
 have h1:dv a b ∣ dv c d:=zur ((h _).mp ⟨dv_l a b,dv_r a b⟩).1 ((h _).mp ⟨dv_l a b,dv_r a b⟩).2
 have h2:dv c d ∣ dv a b:=zur ((h _).mpr ⟨dv_l c d,dv_r c d⟩).1 ((h _).mpr ⟨dv_l c d,dv_r c d⟩).2
 exact Int.dvd_antisymm (dv_nn _ _) (dv_nn _ _) h1 h2
theorem dv_step (a b:Int):dv b (a % b)=dv a b:=by
 refine zxn fun x=>⟨fun ⟨h1,h2⟩=>⟨?_,h1⟩,fun ⟨h1,h2⟩=>⟨h2,?_⟩⟩
 ·have e:=Int.mul_ediv_add_emod a b
  rw [<- e]
  exact Int.dvd_add (Int.dvd_trans h1 (Int.dvd_mul_right b _)) h2
 ·rw [Int.emod_def]
  exact Int.dvd_sub h1 (Int.dvd_trans h2 (Int.dvd_mul_right b _))
theorem dv_abs (a b:Int):dv (if a<0 then -a else a) (if b<0 then -b else b)=dv a b:=by
 split <;> split <;> simp only [zrn,zro]
theorem zth (g a b:Int) (h:0<=g):dv (g*a) (g*b)=g*dv a b:=by
 unfold dv; rw [Int.gcd_mul_left]
 have:((g.natAbs*a.gcd b:Nat):Int)=(g.natAbs:Int)*(a.gcd b:Nat):=by simp
 rw [this]; congr 1; omega
theorem zvo {a b:Int} (h:dv a b≠0):dv (a / dv a b) (b / dv a b) = 1:=by
 have hp:0<dv a b:=by have:=dv_nn a b; omega
 have e1:a=dv a b*(a / dv a b):=(Int.mul_ediv_cancel' (dv_l a b)).symm
 have e2:b=dv a b*(b / dv a b):=(Int.mul_ediv_cancel' (dv_r a b)).symm
 have e:dv a b=dv a b*dv (a / dv a b) (b / dv a b):=by
  have:=zth (dv a b) (a / dv a b) (b / dv a b) (Int.le_of_lt hp)
  rw [<- e1,<- e2] at this
  exact this
 have e':dv a b*1=dv a b*dv (a / dv a b) (b / dv a b):=by rw [Int.mul_one]; exact e
 exact (Int.eq_of_mul_eq_mul_left (by omega) e').symm
structure Fr (n d:Int):Prop where
 pos:0<d
 low:dv n d = 1
theorem zrp {n d x:Int} (h:dv n d = 1) (q:d ∣ n*x):d ∣ x:=by
 have h':Nat.Coprime d.natAbs n.natAbs:=by
  unfold dv at h
  have:Int.gcd n d = 1:=by omega
  unfold Nat.Coprime
  rw [Nat.gcd_comm]; exact this
 have q':d.natAbs ∣ n.natAbs*x.natAbs:=by rw [<- Int.natAbs_mul]; exact Int.natAbs_dvd_natAbs.mpr q
 exact Int.natAbs_dvd_natAbs.mp (h'.dvd_of_dvd_mul_left q')
theorem Fr.uniq {n d m e:Int} (h:Fr n d) (k:Fr m e) (q:n*e=m*d):n=m/\d=e:=by
 have h1:d ∣ e:=zrp h.low ⟨m,by rw [q,Int.mul_comm]⟩
 have h2:e ∣ d:=zrp k.low ⟨n,by rw [<- q,Int.mul_comm]⟩
 have e1:d=e:=Int.dvd_antisymm (Int.le_of_lt h.pos) (Int.le_of_lt k.pos) h1 h2
 subst e1
 have:=h.pos
 exact ⟨Int.eq_of_mul_eq_mul_right (by omega) q,rfl⟩
def rN (t b:Int):Int:=if b<0 then t / (-(dv t b)) else t / dv t b
def rD (t b:Int):Int:=if b<0 then b / (-(dv t b)) else b / dv t b
theorem zxo {t b:Int}:rN t b*(if b<0 then -(dv t b) else dv t b)=t:=by
 unfold rN
 split
 ·exact Int.ediv_mul_cancel (Int.neg_dvd.mpr (dv_l t b))
 ·exact Int.ediv_mul_cancel (dv_l t b)
theorem zxp {t b:Int}:rD t b*(if b<0 then -(dv t b) else dv t b)=b:=by
 unfold rD
 split
 ·exact Int.ediv_mul_cancel (Int.neg_dvd.mpr (dv_r t b))
 ·exact Int.ediv_mul_cancel (dv_r t b)
theorem zrq {t b:Int} (h:b≠0):rN t b*b=rD t b*t:=by
 have e1:=zxo (t:=t) (b:=b)
 have e2:=zxp (t:=t) (b:=b)
 generalize (if b<0 then -(dv t b) else dv t b)=c at e1 e2
 calc rN t b*b=rN t b*(rD t b*c):=by rw [e2]
  _=rD t b*(rN t b*c):=by rw [<- Int.mul_assoc,<- Int.mul_assoc,Int.mul_comm (rN t b)]
  _=rD t b*t:=by rw [e1]
theorem zxq {t b:Int} (h:b≠0):Fr (rN t b) (rD t b):=by
 have hp:=dv_pos (a:=t) h
 refine ⟨?_,?_⟩
 ·unfold rD
  by_cases hb:b<0
  ·rw [if_pos hb,Int.ediv_neg]
   obtain ⟨k,hk⟩:=dv_r t b
   have:b / dv t b=k:=Int.ediv_eq_of_eq_mul_right (by omega) hk
   rw [this]
   rcases Int.lt_or_le k 0 with q | q
   ·omega
   ·have:=Int.mul_nonneg (Int.le_of_lt hp) q; omega
  ·rw [if_neg hb]
   obtain ⟨k,hk⟩:=dv_r t b
   have:b / dv t b=k:=Int.ediv_eq_of_eq_mul_right (by omega) hk
   rw [this]
   rcases Int.lt_or_le 0 k with q | q
   ·exact q
   ·have:=Int.mul_nonneg_of_nonpos_of_nonpos (a:=-(dv t b)) (b:=k) (by omega) q
    rw [Int.neg_mul] at this
    omega
 ·have q:=zvo (a:=t) (b:=b) (by omega)
  unfold rN rD
  by_cases hb:b<0
  ·rw [if_pos hb,if_pos hb,Int.ediv_neg,Int.ediv_neg,zrn,zro]; exact q
  ·rw [if_neg hb,if_neg hb]; exact q
def Sz (n:Nat) (x:Int):Prop:=x.natAbs<2 ^ n
theorem Sz.mono {m n:Nat} {x:Int} (h:Sz m x) (hm:m<=n):Sz n x:=Nat.lt_of_lt_of_le h (Nat.pow_le_pow_right (by decide) hm)
theorem Sz.neg {n:Nat} {x:Int} (h:Sz n x):Sz n (-x):=by unfold Sz at *; omega
theorem Sz.le {n:Nat} {x y:Int} (h:Sz n y) (k:x.natAbs<=y.natAbs):Sz n x:=Nat.lt_of_le_of_lt k h
theorem Sz.dvd {n:Nat} {x y:Int} (h:Sz n y) (d:x ∣ y) (hy:y≠0):Sz n x:=by
 refine h.le ?_
 exact Nat.le_of_dvd (by omega) (Int.natAbs_dvd_natAbs.mpr d)
end Sw
namespace Sw
theorem Sz.lit {x:Int} (h:x.natAbs<1606938044258990275541962092341162602522202993782792835301376):Sz 5000 x:=by
 have e:(2:Nat) ^ 200 = 1606938044258990275541962092341162602522202993782792835301376:=by decide
 exact Nat.lt_of_lt_of_le (by rw [e]; exact h) (Nat.pow_le_pow_right (by decide) (by decide:200<=5000))
end Sw
namespace Sw
end Sw
namespace Sw
theorem Sz.r18 {x:Int} (h1:-100000000000000000000<x) (h2:x<100000000000000000000):Sz 70 x:=by
 have e:(2:Nat) ^ 70 = 1180591620717411303424:=by decide
 unfold Sz; rw [e]; omega
theorem Sz.one (n:Nat):Sz (n+1) 1:=by
 unfold Sz
 exact Nat.lt_of_lt_of_le (by decide:Int.natAbs 1<2 ^ 1) (Nat.pow_le_pow_right (by decide) (by omega))
end Sw
namespace L2
open PySem PySem.Spec PyProof.Rows
theorem zkl {n:Nat} {x:Int} (h:Sw.Sz n x):Builtin.Int.intBits x<=n:=by
 unfold Builtin.Int.intBits
 split
 ·exact Nat.zero_le _
 ·rename_i hx
  have hx':x≠0:=by simpa using hx
  have:x.natAbs.log2<n:=(Nat.log2_lt (by omega)).mpr h
  omega
def CMulL (i j:Int):Prop:=Sw.Sz 5000 i/\Sw.Sz 5000 j
def CDivL (i j:Int):Prop:=0<j/\Sw.Sz 5000 j
def CDivS (i j:Int):Prop:=j≠0/\Sw.Sz 5000 j
theorem zme {i j:Int} (h0:j≠0) (h:Sw.Sz 5000 j):Builtin.divisionGoesByPylong i j=false:=by
 refine PyProof.noPylong_of_log2 ?_
 have:j.natAbs.log2<5000:=(Nat.log2_lt (by omega)).mpr h
 omega
section
variable {X:Cx}
theorem znp:OpR X (binaryOp .Mult) (rI CMulL fun i j=>.int (i*j)):=opI fun _ _ _ _ _ _ _ hc q =>
 mul_int q (IntMulOk.of_bits (Nat.le_trans (zkl hc.1) (by decide)) (Nat.le_trans (zkl hc.2) (by decide)))
theorem zti:OpR X (binaryOp .FloorDiv) (rI CDivL fun i j=>.int (i / j)):=opI fun i j _ _ _ _ _ hc q=>by
 have h1:(0:Int)<j:=hc.1
 exact floordiv_int (by omega) (by rw [Int.fdiv_eq_ediv_of_nonneg i (by omega)]; exact q) (.inl (zme (by omega) hc.2))
theorem zoz:OpR X (binaryOp .FloorDiv) (rI CDivS fun i j=>.int (i.fdiv j)):=opI fun _ _ _ _ _ _ _ hc q=>floordiv_int hc.1 q (.inl (zme hc.1 hc.2))
def clsV:V->Option Value
 | .ty n=>some (.type n)
 | .ref a=>some (.ref a)
 | _=>none
theorem znq:CallR X (.builtin "isinstance") (fun xs H Q=>∃ x c t cv b,xs = [x,c]/\clsV c=some cv/\TyOf X.K H x t/\PySem.W.kitOne X.K t cv=some b/\Q (.bl b) H):=by
 intro pins s σ H xs us Q I r h
 obtain ⟨x,c,t,cv,b,rfl,hc,ty,e,q⟩:=h
 obtain ⟨u,v,rfl,rx,rc⟩:=Vals.two r
 have ec:v=cv:=by
  cases c with
  | ty n=>cases (show v=Value.type n from rc); exact Option.some.inj hc
  | ref a=>cases (show v=Value.ref a from rc); exact Option.some.inj hc
  | _=>cases hc
 subst ec
 exact zre I rx ty e fun tk=>⟨.bl b,H,I.tok _,rfl,q⟩
structure Def (P:Program) (w:World) (K:PySem.W.Frag) (mg:Str->Option Value) (base:Heap) (CX:CXT) (k:Nat) (x:Str) (ps:List Str) (sp:Sp):Prop where
 ex:∃ (f:Addr) (fd:FuncData),FnOk P w K mg base CX k f fd ps sp/\Binds K fd ps []/\PySem.W.keepIn K (.ref f)=true/\mg x=some (.ref f)
structure Src (K:PySem.W.Frag) (mg:Str->Option Value) (x:Str) (st:Stmt) (ps:List Str):Prop where
 ex:∃ (f:Addr) (fd:FuncData),Fun K x x st f fd/\Binds K fd ps []/\mg x=some (.ref f)
end
end L2
namespace L2
theorem zrr {c:TT} {tb:TS} {D:Ends} {σ:St} {H:Hp} (Pv:St->Hp->Prop) (μ:St->Hp->Nat) (h0:Pv σ H)
    (hs:∀ σ H,Pv σ H->∃ b:Bool,(∀ Q:Bool->Hp->Prop,Q b H->c σ H Q)/\(b=true->tb { D with nx:=fun σ' H'=>Pv σ' H'/\μ σ' H' < μ σ H,ct:=fun σ' H'=>Pv σ' H'/\μ σ' H' < μ σ H,bk:=D.nx } σ H)/\(b=false->D.nx σ H)):zqs c tb D σ H:=by
  refine ⟨fun m σ H=>m = μ σ H/\Pv σ H,⟨_,rfl,h0⟩,?_⟩
  rintro m σ H ⟨rfl,p⟩
  obtain ⟨b,hc,h1,h2⟩:=hs σ H p
  refine hc _ ?_
  cases b with
  | true=>exact ⟨_,fun σ' H' ⟨p',l⟩=>⟨_,l,rfl,p'⟩,h1 rfl⟩
  | false=>exact h2 rfl
end L2
namespace L2
open PySem PySem.Spec PyProof.Rows
theorem zie {X:Cx} {x:Str} {n:Int} {pos:Pos} (hg:Gl X x) (hm:∃ t,X.mg x=some (.int n t)) (hd:(x == ("__debug__" : Str))=false:=by decide):PE X (.Name x pos) (tC (.int n)):=by
 obtain ⟨t,hm⟩:=hm
 exact zkt hg hm ⟨t,rfl⟩ hd
def spLaw (K:PySem.W.Frag):Sp:=fun vs H Q _=>∃ (a:Addr) (ns:List Int),vs = [.ref a]/\SqL K H a (ns.map V.int)/\ns.length<=63/\∀ H',Q (.bl true) H'
end L2
namespace L2
open PySem PySem.Spec PyProof.Rows
def spInt1 (g:Int->Int):Sp:=fun vs H Q _=>∃ a,vs = [.int a]/\Q (.int (g a)) H
def spInt2 (g:Int->Int->Int):Sp:=fun vs H Q _=>∃ a b,vs = [.int a,.int b]/\Q (.int (g a b)) H
def cellI (ns:List Int) (k:Int):Int:=(ns[k.toNat]?).getD 0
def zus (K:PySem.W.Frag):Sp:=fun vs H Q _=>∃ a ns k,vs = [.ref a,.int k]/\SqL K H a (ns.map V.int)/\0<=k/\Q (.int (cellI ns k)) H
theorem zqe {ns:List Int} {k:Int} (h0:0<=k) (h:k<ns.length):atI (ns.map V.int) k=some (V.int (cellI ns k)):=by
 have e:((k.toNat:Nat):Int)=k:=by omega
 have hl:k.toNat<ns.length:=by omega
 have q:(ns.map V.int)[k.toNat]? = some (V.int (cellI ns k)):=by
  rw [List.getElem?_map]
  unfold cellI
  rw [List.getElem?_eq_getElem hl]
  rfl
 have:=zht q
 rw [e] at this
 exact this
theorem znr {ns:List Int} {k:Int} (h0:0<=k) (h:¬ k<ns.length):cellI ns k = 0:=by
 unfold cellI
 rw [List.getElem?_eq_none (by omega)]
 rfl
def spWhole:Sp:=fun vs H Q _=>∃ n,vs = [.int n]/\Q (.bl true) H
theorem zns {K:PySem.W.Frag}:PySem.W.kitOne K (.type "int") (.type "int")=some true:=by rfl
theorem zmf {K:PySem.W.Frag}:PySem.W.kitOne K (.type "int") (.type "bool")=some false:=by first | rfl | decide
end L2
namespace L2
theorem zae {t u:TS} {D:Ends} {σ:St} {H:Hp} (h:∀ R:St->Hp->Prop,(∀ σ H,u D σ H->R σ H)->t { D with nx:=R } σ H):tSeq t u D σ H:=h (u D) fun _ _ x=>x
end L2
namespace L2
open PySem PySem.Spec PyProof.Rows
theorem zrs {K:PySem.W.Frag} {H:Hp} {a:Addr} {ns:List Int} {k:Int} {Q:VK} {E:XK} (hS:SqL K H a (ns.map V.int)) (h0:0<=k) (q:Q (.int (cellI ns k)) H):zus K [.ref a,.int k] H Q E:=⟨a,ns,k,rfl,hS,h0,q⟩
end L2
namespace L2
theorem cmulL_lit {a b:Int} (h1:a.natAbs<1606938044258990275541962092341162602522202993782792835301376) (h2:b.natAbs<1606938044258990275541962092341162602522202993782792835301376):CMulL a b:=⟨Sw.Sz.lit h1,Sw.Sz.lit h2⟩
theorem cdivL_lit {a b:Int} (h0:0<b) (h2:b.natAbs<1606938044258990275541962092341162602522202993782792835301376):CDivL a b:=⟨h0,Sw.Sz.lit h2⟩
end L2
namespace L2
open PySem
theorem line_lit {n:Nat} (h:n<=1000):n<=sizeLine:=Nat.le_trans h (by decide)
theorem line_lt {n:Nat} (h:n<1000):n<sizeLine:=Nat.lt_of_lt_of_le h (by decide)
end L2
namespace L2
open PySem
theorem zed {K:PySem.W.Frag} {H:Hp} {p:Addr} {xs:List V} {i:Int} {v:V} {Q:VK} (hT:SqT K H p xs) (h:atI xs i=some v) (q:Q v H):rIxT K (.ref p) (.int i) H Q:=⟨p,xs,i,v,rfl,rfl,hT,h,q⟩
theorem zmg {K:PySem.W.Frag} {H:Hp} {p:Addr} {xs:List V} {i:Int} {v:V} {Q:VK} (hT:SqL K H p xs) (h:atI xs i=some v) (q:Q v H):rIxL K (.ref p) (.int i) H Q:=⟨p,xs,i,v,rfl,rfl,hT,h,q⟩
end L2
namespace L2
open PySem PySem.Spec PyProof.Rows
theorem ztj {K:PySem.W.Frag}:PySem.W.kitOne K (.type "list") (.type "list")=some true:=by rfl
end L2
namespace L2
theorem iteN {c A B:Prop} [Decidable c] (hc:¬ c) (h:B):if c then A else B:=by rw [if_neg hc]; exact h
end L2
namespace L2
end L2
namespace L2
open PySem PySem.Spec PyProof.Rows
mutual
inductive Deep (K:PySem.W.Frag) (H:Hp):V->PyData->Prop
 | non:Deep K H .non .none
 | bl (b:Bool):Deep K H (.bl b) (.bool b)
 | int (i:Int):Deep K H (.int i) (.int i)
 | str (x:Str):Deep K H (.str x) (.str x)
 | tup {a:Addr} {xs:List V} {ds:List PyData}:SqT K H a xs->DeepAll K H xs ds->Deep K H (.ref a) (.tuple ds)
 | lst {a:Addr} {xs:List V} {ds:List PyData}:SqL K H a xs->DeepAll K H xs ds->Deep K H (.ref a) (.list ds)
inductive DeepAll (K:PySem.W.Frag) (H:Hp):List V->List PyData->Prop
 | nil:DeepAll K H [] []
 | cons {x:V} {d:PyData} {xs:List V} {ds:List PyData}:Deep K H x d->DeepAll K H xs ds->DeepAll K H (x :: xs) (d :: ds)
end
section
variable {X:Cx} {pins:List (Addr×Obj)} {σ:St} {H:Hp} {s:Shared}
mutual
theorem zeg (I:Inv X pins σ H s):∀ {x:V} {d:PyData} {u:Value},Deep X.K H x d->RelV x u->∃ as,Reads s.heap u d as
 | _,_,u,.non,r=>by cases (show u=Value.none from r); exact ⟨_,.none⟩
 | _,_,u,.bl b,r=>by cases (show u=Value.bool b from r); exact ⟨_,.bool b⟩
 | _,_,u,.int i,r=>by obtain ⟨t,rfl⟩:=(show ∃ t,u=Value.int i t from r); exact ⟨_,.int i t⟩
 | _,_,u,.str x,r=>by obtain ⟨t,rfl⟩:=(show ∃ t,u=Value.str x t from r); exact ⟨_,.str x t⟩
 | _,_,u,.tup (a:=a) q h,r=>by
  cases (show u=Value.ref a from r)
  obtain ⟨its,rv,⟨o,e,c,n,d⟩,hz⟩:=I.tuple q
  obtain ⟨as,ra⟩:=zfj I h rv
  exact ⟨as,reads_tuple_at e c d (by simpa using ra)⟩
 | _,_,u,.lst (a:=a) q h,r=>by
  cases (show u=Value.ref a from r)
  obtain ⟨its,rv,⟨o,n,e,c,_,d⟩,hz⟩:=I.list q
  obtain ⟨as,ra⟩:=zfj I h rv
  exact ⟨_,reads_list_at e c d (by simpa using ra)⟩
theorem zfj (I:Inv X pins σ H s):∀ {xs:List V} {ds:List PyData} {us:List Value},DeepAll X.K H xs ds->Vals xs us->∃ as,ReadsAll s.heap us ds as
 | _,_,_,.nil,.nil=>⟨_,.nil⟩
 | _,_,_,.cons d h,.cons r t=>by
  obtain ⟨as,q⟩:=zeg I d r
  obtain ⟨bs,p⟩:=zfj I h t
  exact ⟨_,.cons q p⟩
end
end
section
variable {X:Cx}
def rEqD (K:PySem.W.Frag):R2:=fun x y H Q=>∃ d e,Deep K H x d/\Deep K H y e/\PySem.SeqAt.shaped d=true/\PySem.SeqAt.shaped e=true/\Q (.bl (PyData.eqv d e)) H
def rNeD (K:PySem.W.Frag):R2:=fun x y H Q=>∃ d e,Deep K H x d/\Deep K H y e/\PySem.SeqAt.shaped d=true/\PySem.SeqAt.shaped e=true/\Q (.bl (!PyData.eqv d e)) H
theorem zxr (hu:X.A.units+64<cLine):OpR X (compareOp .Eq) (rEqD X.K):=by
 intro pins s σ H x y v u Q I rx ry h
 obtain ⟨d,e,hd,he,sd,se,q⟩:=h
 obtain ⟨as,ra⟩:=zeg I hd rx
 obtain ⟨bs,rb⟩:=zeg I he ry
 exact eq_dataH ra rb sd se hu ⟨.bl _,H,I,rfl,q⟩
theorem zxs (hu:X.A.units+64<cLine):OpR X (compareOp .NotEq) (rNeD X.K):=by
 intro pins s σ H x y v u Q I rx ry h
 obtain ⟨d,e,hd,he,sd,se,q⟩:=h
 obtain ⟨as,ra⟩:=zeg I hd rx
 obtain ⟨bs,rb⟩:=zeg I he ry
 exact ne_dataH ra rb sd se hu ⟨.bl _,H,I,rfl,q⟩
end
theorem zai {H:Hp} {a:Addr} {o:HO} (h:H a=none):Same H (upd H a o):=fun b u e=>by rw [zah (zao e h)]; exact e
end L2
namespace L2
open PySem PySem.Spec PyProof.Rows
def Ite (K:PySem.W.Frag) (a:Addr):It :=
  ⟨fun i H=>∃ xs x,SqL K H a xs/\xs[i]? = some x,
   fun i H y H'=>∃ p x,y = .ref p/\H p=none/\(∀ xs,SqL K H a xs->xs[i]? = some x)/\H'=upd H p (.tup [.int i,x]),
   fun i H=>∃ xs,SqL K H a xs/\xs.length<=i⟩
section
variable {X:Cx}
def iEnum (K:PySem.W.Frag) (ta:TA):TI:=fun σ H R=>ta σ H fun vs H1=>∃ a,vs = [.ref a]/\(∃ xs,SqL K H1 a xs)/\R (Ite K a) H1
end
section
variable {prog:Program} {w:World} {A:Around} {R:Result->Shared->Prop} {s:Shared}
theorem zgt {elt target iter:Expr} {ifs:List Expr} {scope:Scope} {pos:Pos} {it acc:Value} {env:Env} (I:Nat->Shared->Prop)
    (turn:∀ n s,I n s->wpAny (model prog w) A (pyNext it) (fun r s₁=>match r with
      | none=>R (.ok .next) s₁
      | some v=>wpAny (model prog w) A (letOwnedTupleGo target it v) (fun _ s₁'=>wpAny (model prog w) A (assign target env v) (fun _ s₂ =>
          wpAny (model prog w) A (forIn ifs true fun c r=>if r=true then do let ok <- isTrue c env (eval c env); pure (ForInStep.yield ok) else pure (ForInStep.yield r)) (fun ok s₃ =>
            if ok=true then wpAny (model prog w) A (eval elt env) (fun x s₄ =>
              wpAny (model prog w) A (call (.builtin "list.append") [acc,x]) (fun _ s₅=>∃ m,m<n/\I m s₅) (notedBy (model prog w) A env fun e s'=>R (.error e) s') s₄) (notedBy (model prog w) A env fun e s'=>R (.error e) s') s₃
            else ∃ m,m<n/\I m s₃) (notedBy (model prog w) A env fun e s'=>R (.error e) s') s₂) (notedBy (model prog w) A env fun e s'=>R (.error e) s') s₁') (notedBy (model prog w) A env fun e s'=>R (.error e) s') s₁) (notedBy (model prog w) A env fun e s'=>R (.error e) s') s)
    (n:Nat) (h:I n s) :
    codeAny (model prog w) A (.compLoop (.ListComp elt [⟨target,iter,ifs,0⟩] scope pos) 0 it acc env) R s:=by
  refine codeAny_loop rfl I (fun n s hI=>?_) n h
  show wpAny _ A ((compTurn (.ListComp elt [⟨target,iter,ifs,0⟩] scope pos) 0 it acc env).onRaise (fun x=>do noteFrame x env; theTreesLotGoes x)) _ _ s
  refine wpAny_noted ?_
  rw [compTurn_list]
  refine wpAny_bind (wpAny_standAt (wpAny_bind (wpAny_mono (turn n s hI) (fun r s₁ h₁=>?_) fun _ _ h'=>h')))
  cases r with
  | none=>exact wpAny_pure h₁
  | some v =>
    refine wpAny_bind (wpAny_mono h₁ (fun _ s₁' h₁'=>?_) fun _ _ h'=>h')
    refine wpAny_bind (wpAny_mono h₁' (fun _ s₂ h₂=>wpAny_bind (wpAny_mono h₂ (fun ok s₃ h₃=>?_) fun _ _ h'=>h')) fun _ _ h'=>h')
    cases ok with
    | false=>exact wpAny_pure ⟨rfl,h₃⟩
    | true =>
      exact wpAny_bind (wpAny_bind (wpAny_mono h₃ (fun x s₄ h₄=>wpAny_bind (wpAny_mono h₄ (fun _ s₅ h₅=>wpAny_pure (wpAny_pure ⟨rfl,h₅⟩)) fun _ _ h'=>h')) fun _ _ h'=>h'))
end
def zfb (X:Cx) (scope:Scope) (cl:List (Str×Addr)) (N:List Str) (fp:List Addr) (s:Shared) (H:Hp):Cx :=
 { X with N:=N,s₀:=s,H₀:=H,env:=compEnvC scope cl s.heap.objs.size X.env,outer:=X.stack,stack:=X.stack,ex:=fp,fn:=fun _=>false,pn:=[],xe:=fun _ _=>False }
def FrOk (X:Cx) (sc:Scope):List (Str×Nat)->Prop
 | []=>True
 | p :: r=>(X.N[p.2]? = some p.1/\sc.names.lookup p.1=some .cell/\X.env.kindOf p.1=some .cell)/\FrOk X sc r
theorem FrOk.mem {X:Cx} {sc:Scope}:∀ {l:List (Str×Nat)},FrOk X sc l->∀ p∈l,X.N[p.2]? = some p.1/\sc.names.lookup p.1=some .cell/\X.env.kindOf p.1=some .cell
 | [],_,p,hp=>nomatch hp
 | q :: r,h,p,hp=>by
  rcases List.mem_cons.mp hp with e | hp
  ·rw [e]; exact h.1
  ·exact FrOk.mem h.2 p hp
def PIfs (X:Cx) (ifs:List Expr) (t:TT):Prop :=
 ∀ (pins:List (Addr×Obj)) (s:Shared) (σ:St) (H:Hp) (Q:Bool->Hp->Prop),Inv X pins σ H s->t σ H Q ->
  wpAny (model X.prog X.w) X.A (forIn ifs true fun c r=>if r=true then do let ok <- isTrue c X.env (eval c X.env); pure (ForInStep.yield ok) else pure (ForInStep.yield r)) (TP X pins σ Q) X.xe s
def tYes:TT:=fun _ H Q=>Q true H
theorem zes {X:Cx}:PIfs X [] tYes:=fun _ _ _ H _ I h=>wpAny_tests_nil ⟨H,I,h⟩
theorem zpa {X:Cx} {c:Expr} {t:TT} (hc:PT X c t):PIfs X [c] t:=fun pins s σ H Q I h=>wpAny_tests_one (hc pins s σ H Q I h)
def tComp (nt:Nat) (fr:List (Str×Nat)) (wi:TI) (g:TG) (tc:TT) (te:TE):TE:=fun σ H Q=>wi σ H fun J H1=>∀ D,H1 D=none->∃ W:Nat->Nat->St->Hp->Prop,
 (∃ m,W 0 m (List.replicate nt none++fr.map fun p=>(σ[p.2]?).join) (upd H1 D (.lst [])))/\∀ i m τ H',W i m τ H' ->
  (J.stop i H'/\Q (.ref D) H')\/(J.go i H'/\∃ N:St->Hp->Prop,(∀ τ' H'',N τ' H''->∃ m',m' < m/\W (i+1) m' τ' H'') /\
   ∀ x H2,J.yld i H' x H2->g x τ H2 fun τ2 H3=>tc τ2 H3 fun b H4=>if b=true then te τ2 H4 fun y H5=>∃ ys,H5 D=some (.lst ys)/\ys.length<sizeLine/\N τ2 (upd H5 D (.lst (ys++[y]))) else N τ2 H4)
section
variable {X:Cx}
theorem ztk {scope:Scope} {cl:List (Str×Addr)} {ts:List Str} {fr:List (Str×Nat)} {fp:List Addr} {pins:List (Addr×Obj)} {σ:St} {H:Hp} {s:Shared} {h':Heap} {m:Str->Option Value} {t':Nat} (I:Inv X pins σ H s)
    (hkind:scope.kind = .function) (hcl:∀ x c,cl.lookup x=some c->X.env.cells.lookup x=some c)
    (hhas:∀ x,((relabel scope X.env).names.lookup x=some .cell\/(relabel scope X.env).names.lookup x=some .free)->∃ c,cl.lookup x=some c) (hfr:FrOk X (relabel scope X.env) fr)
    (hfp:∀ b∈fp,FpOk X pins H b/\b<s.heap.objs.size) (hn:h'.Ns s.heap.objs.size m) (hk:∀ b o,s.heap.get? b=some o->h'.get? b=some o) :
    Inv (zfb X scope cl (ts++fr.map (·.1)) fp s H) [] (List.replicate ts.length none++fr.map fun p=>(σ[p.2]?).join) H { s with heap:=h',toks:=t' }:=by
  have cellK:∀ c v,s.heap.IsCell c v->h'.IsCell c v:=fun c v ⟨o,ho,hd⟩=>⟨o,hk c o ho,hd⟩
  refine ⟨⟨I.ok.mod,hkind,I.ok.glob,I.ok.blt,Nat.le_refl _,fun x y c h1 h2=>I.ok.inj x y c (hcl x c h1) (hcl y c h2),hhas,fun x c h=>(by cases h),I.ok.hd,I.ok.frames,.inl rfl,fun b hb=>?_,I.bs,Nat.le_trans I.ok.bsz I.sz,fun b o e hb=>?_,fun b hb z=>?_,I.stack,I.stkFree⟩,
    rfl,I.bare,Un.kept hk,⟨m,hn,fun i x v e1 e2 e3=>?_⟩,fun x c e=>?_,I.hok.fresh (Nat.le_refl _),fun x c e=>I.freeC x c (hcl x c e),fun p hp=>absurd (show p∈([]:List (Addr×Obj)) from hp) (by simp),I.hok.kept hk,?_⟩
  · obtain ⟨f,lt⟩:=hfp b hb
    exact ⟨Nat.ne_of_lt lt,fun x c e=>f.2.2.2.2.1 x c (hcl x c e)⟩
  · obtain ⟨f,lt⟩:=hfp b hb
    rcases f.2.2.2.1 with z | z
    · exact I.ok.noex b o e z
    · exact absurd (Nat.lt_of_lt_of_le (Heap.lt_size e) (Nat.le_trans I.ok.bsz z)) (Nat.lt_irrefl _)
  · obtain ⟨f,lt⟩:=hfp b hb
    rcases List.mem_cons.mp (I.stkSub b z) with y | y
    · exact f.2.1 y
    · exact f.2.2.1 y
  · have hlen:(List.replicate ts.length (none:Option V)).length=ts.length:=by simp
    by_cases hi:i<ts.length
    · rw [List.getElem?_append_left (by rw [hlen]; exact hi),List.getElem?_replicate,if_pos hi] at e2
      cases e2
    · rw [List.getElem?_append_right (by rw [hlen]; omega),hlen,List.getElem?_map] at e2
      have e1':(ts++fr.map (·.1))[i]? = some x:=e1
      rw [List.getElem?_append_right (by omega),List.getElem?_map] at e1'
      cases ep:fr[i-ts.length]? with
      | none=>rw [ep] at e2; cases e2
      | some p =>
        rw [ep] at e1' e2
        have ex:p.1=x:=Option.some.inj e1'
        have ev:(σ[p.2]?).join=some v:=Option.some.inj e2
        obtain ⟨a1,a2,a3⟩:=hfr.mem p (List.mem_of_getElem? ep)
        have ev':σ[p.2]? = some (some v):=by
          cases q:σ[p.2]? with
          | none=>rw [q] at ev; cases ev
          | some o=>rw [q] at ev; cases o with
            | none=>cases ev
            | some v'=>cases ev; rfl
        obtain ⟨m',hn',hl'⟩:=I.loc
        obtain ⟨u,ru,lk⟩:=hl' p.2 p.1 v a1 ev' (.inr (.inl a3))
        subst ex
        refine ⟨u,ru,?_⟩
        rcases lk with ⟨z,_⟩ | ⟨_,c,ec,z⟩
        · rw [z] at a3; cases a3
        · obtain ⟨c',ec'⟩:=hhas p.1 (.inl a2)
          have ecc:c'=c:=Option.some.inj ((hcl _ _ ec').symm.trans ec)
          exact .inr ⟨.inl a2,c',ec',(by rw [ecc]; exact cellK _ _ z)⟩
  · obtain ⟨v,z⟩:=I.cell x c (hcl x c e)
    exact ⟨v,cellK _ _ z⟩
  · show _=(ts++fr.map (·.1)).length
    simp
theorem zvp {elt target iter:Expr} {ifs:List Expr} {scope:Scope} {pos:Pos} {cl:List (Str×Addr)} {ts:List Str} {fr:List (Str×Nat)} {wi:TI} {g:TG} {tc:TT} {te:TE} (hcalm:X.calm=true)
    (hclos:closureFor scope X.env=pure cl) (hcell:∀ y∈scope.names,y.2≠.cell) (hkind:scope.kind = .function) (hnames:∀ y∈scope.names,y.2 = .local->scope.names.lookup y.1=some .local)
    (hcl:∀ x c,cl.lookup x=some c->X.env.cells.lookup x=some c)
    (hhas:∀ x,((relabel scope X.env).names.lookup x=some .cell\/(relabel scope X.env).names.lookup x=some .free)->∃ c,cl.lookup x=some c) (hfr:FrOk X (relabel scope X.env) fr)
    (hi:PI X target iter wi) (hg:∀ fp s H,PG (zfb X scope cl (ts++fr.map (·.1)) fp s H) target g) (hc:∀ fp s H,PIfs (zfb X scope cl (ts++fr.map (·.1)) fp s H) ifs tc)
    (he:∀ fp s H,PE (zfb X scope cl (ts++fr.map (·.1)) fp s H) elt te) (hs:∀ x,foldedSetIterable iter X.env x=pure x:=by intro _; rfl) :
    PE X (.ListComp elt [⟨target,iter,ifs,0⟩] scope pos) (tComp ts.length fr wi g tc te):=by
  intro pins s σ H Q I h
  rw [eval_ListComp]
  refine wpAny_comprehension_free (use:=none) rfl hs hclos hkind hnames (thn (hi pins s σ H _ I h) fun xv s1 h1=>thn h1 fun itv s2 h2=>?_)
  obtain ⟨it,fp,tn,J,H2,rfl,I2,T,st2,f2,hR⟩:=h2
  have D0:H2 s2.heap.objs.size=none:=I2.hok.fresh (Nat.le_refl _)
  obtain ⟨W,⟨m0,w0⟩,turn⟩:=hR s2.heap.objs.size D0
  refine wpAny_newObj_type (wpAny_newFunctionEnv hcell (by intro y hy; simp at hy) (fun h₁ hns₁ hsb₁=>?_) hkind)
  dsimp only at hns₁ hsb₁ ⊢
  have I3:Inv X pins σ (upd H2 s2.heap.objs.size (.lst [])) { s2 with heap:=s2.heap.push { cls:=.type "list", dict:=none,data:=.seq ([]:List Value).toArray } } :=
    I2.laid (t':=s2.toks) (fun _ _ q=>Heap.get?_push_of_some _ q) (Nat.le_refl _) ⟨Nat.zero_le _,[],0,.nil,Heap.get?_push_size _ rfl⟩
  have kp3:∀ b o,s2.heap.get? b=some o->(s2.heap.push { cls:=.type "list", dict:=none,data:=.seq ([]:List Value).toArray }).get? b=some o:=fun b o q=>Heap.get?_push_of_some _ q
  have sz3:(s2.heap.push { cls:=.type "list", dict:=none,data:=.seq ([]:List Value).toArray }).objs.size=s2.heap.objs.size+1:=Heap.size_push ..
  generalize s2.heap.push { cls:=.type "list", dict:=none,data:=.seq ([]:List Value).toArray } = hp3 at hns₁ hsb₁ I3 kp3 sz3 ⊢
  have kp:∀ b o,hp3.get? b=some o->h₁.get? b=some o:=fun b o e=>hsb₁.extBut b o (Nat.ne_of_lt (Heap.lt_size e)) (Heap.get?_push_of_some _ e)
  have flt:∀ b∈fp,b<s2.heap.objs.size:=fun b hb=>by
    obtain ⟨o,e,_⟩:=T.obj _ _ st2 b hb
    exact Heap.lt_size e
  have fr3:∀ b∈fp,(upd H2 s2.heap.objs.size (.lst [])) b=none:=fun b hb=>by rw [zah (Nat.ne_of_lt (flt b hb))]; exact (f2 b hb).1
  have f3:∀ b∈fp,FpOk X pins (upd H2 s2.heap.objs.size (.lst [])) b/\b<hp3.objs.size:=fun b hb=>⟨⟨fr3 b hb,(f2 b hb).2⟩,by rw [sz3]; exact Nat.lt_succ_of_lt (flt b hb)⟩
  have I4:=ztk (ts:=ts) (t':=s2.toks+([]:List (Str×Value)).length) I3 hkind hcl hhas hfr f3 hns₁ kp
  have st4:tn 0 h₁:=T.keep _ _ _ st2 fun b hb o e=>kp b o (kp3 b o e)
  have loop:codeAny (model X.prog X.w) X.A (.compLoop (.ListComp elt [⟨target,iter,ifs,0⟩] scope pos) 0 (.ref it) (.ref s2.heap.objs.size) (compEnvC scope cl hp3.objs.size X.env))
      (compPost (model X.prog X.w) X.A X.xe none (EP X pins σ Q) (.ref s2.heap.objs.size) hp3.objs.size) { s2 with heap:=h₁,toks:=s2.toks+([]:List (Str×Value)).length }:=by
    refine zgt (fun n s'=>∃ i τ H',Inv (zfb X scope cl (ts++fr.map (·.1)) fp { s2 with heap:=hp3 } (upd H2 s2.heap.objs.size (.lst []))) [] τ H' s'/\tn i s'.heap/\(∀ b∈fp,H' b=none)/\W i n τ H') ?_ m0 ⟨0,_,_,I4,st4,fr3,w0⟩
    rintro n s5 ⟨i,τ,H5,I5,st5,fr5,w5⟩
    have stat:∀ {H':Hp},(∀ b∈fp,H' b=none)->∀ b∈fp,FpOk (zfb X scope cl (ts++fr.map (·.1)) fp { s2 with heap:=hp3 } (upd H2 s2.heap.objs.size (.lst []))) [] H' b :=
      fun hn b hb=>⟨hn b hb,(I5.ok.exf b hb).1,I5.ok.exfs b hb,.inl hb,(I5.ok.exf b hb).2,fun p hp=>absurd (show p∈([]:List (Addr×Obj)) from hp) (by simp)⟩
    rcases turn i n τ H5 w5 with ⟨stop,qn⟩ | ⟨go,Nn,hN,step⟩
    · refine thn (T.done (zfb X scope cl (ts++fr.map (·.1)) fp { s2 with heap:=hp3 } (upd H2 s2.heap.objs.size (.lst []))) rfl rfl rfl hcalm i [] s5 τ H5 _ I5 (stat fr5) st5 stop) fun r s6 ⟨hr,I6⟩=>?_
      subst hr
      obtain ⟨m,hn,_⟩:=I6.loc
      refine ⟨m,hn,fun h' hs'=>⟨.ref s2.heap.objs.size,H5,?_,rfl,qn⟩⟩
      have neC:∀ b o,hp3.get? b=some o->b≠hp3.objs.size:=fun b o e=>Nat.ne_of_lt (Heap.lt_size e)
      have hs'':Heap.SameBut hp3.objs.size s6.heap h':=hs'
      refine I3.call' (s':={ s6 with heap:=h' }) (ch:=fp) I6.os ⟨fun b o e n hb hx=>?_,fun b o e n hb hx=>?_,I6.base.free,fun b o e hx=>?_,I6.base.tups,I6.base.frzs,I6.base.tbls⟩ (fun b ob e=>?_) I6.bare (fun b hb=>?_)
      · exact (hs''.2 b (neC b o e)).trans (I6.base.keep b o e n hb hx)
      · obtain ⟨sl,q⟩:=I6.base.slot b o e n hb hx
        exact ⟨sl,(hs''.2 b (neC b o e)).trans q⟩
      · obtain ⟨o',q⟩:=I6.base.there b o e hx
        exact ⟨o',(hs''.2 b (neC b o e)).trans q⟩
      · refine (I6.hok b ob e).stay (fun c v hc q=>(hs''.2 c ?_).trans q) (fun _ q=>q) fun _ _ q=>q
        intro z
        have fz:H5 hp3.objs.size=none:=I6.free
        rcases hc with y | y
        · rw [<- y,z,fz] at e; cases e
        · rw [z,fz] at y; cases y
      · exact ⟨(f2 b hb).2.2.2.1,(f2 b hb).2.1,(f2 b hb).2.2.2.2.1,(f2 b hb).2.2.2.2.2⟩
    · refine thn (T.item (zfb X scope cl (ts++fr.map (·.1)) fp { s2 with heap:=hp3 } (upd H2 s2.heap.objs.size (.lst []))) rfl rfl rfl hcalm i [] s5 τ H5 _ I5 (stat fr5) st5 go) fun r s6 ⟨u,hr,h6⟩=>?_
      subst hr
      refine thn h6 fun _ s7 ⟨x,H7,I7,r7,y7,st7,fr7⟩=>?_
      have I7':=I7.pinned (stat fr7) (T.obj _ _ st7)
      refine wpAny_mono (hg fp _ _ _ s7 τ H7 x u _ I7' r7 (step x H7 y7)) (fun _ s8 ⟨τ8,H8,I8,q8⟩=>?_) fun _ _ z=>False.elim z
      have again:∀ {τ9:St} {H9:Hp} {s9:Shared},Inv (zfb X scope cl (ts++fr.map (·.1)) fp { s2 with heap:=hp3 } (upd H2 s2.heap.objs.size (.lst []))) ([]++zik fp s7.heap) τ9 H9 s9->Nn τ9 H9 ->
          ∃ m,m<n/\∃ i τ H',Inv (zfb X scope cl (ts++fr.map (·.1)) fp { s2 with heap:=hp3 } (upd H2 s2.heap.objs.size (.lst []))) [] τ H' s9/\tn i s9.heap/\(∀ b∈fp,H' b=none)/\W i m τ H':=fun {τ9 H9 s9} I9 n9=>by
        obtain ⟨m',hm,w9⟩:=hN τ9 H9 n9
        refine ⟨m',hm,i+1,τ9,H9,I9.unpinned,T.keep _ _ _ st7 fun b hb o e=>(I9.pin (b,o) (List.mem_append_right _ (List.mem_append_right _ (zdv hb e)))).1,fun b hb=>?_,w9⟩
        obtain ⟨o,e,d⟩:=T.obj _ _ st7 b hb
        exact (I9.pin (b,o) (List.mem_append_right _ (List.mem_append_right _ (zdv hb e)))).2.1
      refine wpAny_mono (hc fp _ _ _ s8 τ8 H8 _ I8 q8) (fun ok s9 ⟨H9,I9,q9⟩=>?_) fun _ _ z=>False.elim z
      cases ok with
      | false=>exact again I9 q9
      | true =>
        refine wpAny_mono (he fp _ _ _ s9 τ8 H9 _ I9 q9) (fun y s10 ⟨v,H10,I10,rv,ys,hD,hl,qN⟩=>?_) fun _ _ z=>False.elim z
        refine wpAny_mono (zen (X:=zfb X scope cl (ts++fr.map (·.1)) fp { s2 with heap:=hp3 } (upd H2 s2.heap.objs.size (.lst []))) _ s10 τ8 H10 (.ref s2.heap.objs.size) [v] (.ref s2.heap.objs.size) [y] (fun _ H=>Nn τ8 H) I10 rfl (.cons rv .nil) ⟨_,ys,v,rfl,rfl,hD,hl,qN⟩) (fun _ s11 ⟨_,H11,I11,_,q11⟩=>again I11 q11) fun _ _ z=>False.elim z
  exact codeAny_compStart_list loop (T.self X.A 0 _ _ _ st4 loop)
end
end L2
namespace L2
open PySem PySem.Spec PyProof.Rows
section
variable {X:Cx} {tg:Expr}
theorem zbe (K:PySem.W.Frag) (h:X.K=K):IxR X (rIxL K):=h ▸ zvm
theorem zdc (K:PySem.W.Frag) (h:X.K=K):IxR X (rIxT K):=h ▸ zxi
theorem zhj (K:PySem.W.Frag) (h:X.K=K):SlR X (rSlL K):=h ▸ zvn
def rLen (K:PySem.W.Frag):List V->Hp->VK->Prop:=fun xs H Q=>∃ p ys,xs = [.ref p]/\(SqL K H p ys\/SqT K H p ys)/\Q (.int ys.length) H
theorem zfe (K:PySem.W.Frag) (h:X.K=K):CallR X (.builtin "len") (rLen K):=h ▸ zma
def rInst (K:PySem.W.Frag):List V->Hp->VK->Prop:=fun xs H Q=>∃ x c t cv b,xs = [x,c]/\clsV c=some cv/\TyOf K H x t/\PySem.W.kitOne K t cv=some b/\Q (.bl b) H
theorem zdw (K:PySem.W.Frag) (h:X.K=K):CallR X (.builtin "isinstance") (rInst K):=h ▸ znq
theorem zgu (K:PySem.W.Frag) (h:X.K=K) {es:List Expr} {k:Nat} {pos:Pos} {t:TGs} {n:Nat} (hc:X.calm=true) (hq:PGs X es t)
    (hn:(assignEach es X.env).length=n:=by rfl) (hst:(assignEach es X.env).findIdx? (·.1)=none:=by rfl):PG X (.Tuple es k pos) (gTup K n t):=h ▸ zxf hc hq hn hst
theorem zet (K:PySem.W.Frag) (h:X.K=K) {l:Expr} {tl:TE} (hl:PE X l tl):PI X tg l (iList K tl):=h ▸ zvg hl
end
def ClOk (env:Env):List (Str×Addr)->Prop
 | []=>True
 | p :: r=>env.cells.lookup p.1=some p.2/\ClOk env r
theorem ClOk.get {env:Env}:∀ {cl:List (Str×Addr)},ClOk env cl->∀ x c,cl.lookup x=some c->env.cells.lookup x=some c
 | [],_,x,c,e=>by cases e
 | p :: r,h,x,c,e=>by
  obtain ⟨k,a⟩:=p
  rw [List.lookup_cons] at e
  by_cases q:x=k
  ·subst q
   rw [beq_self_eq_true] at e
   cases e
   exact h.1
  ·rw [beq_eq_false_iff_ne.mpr q] at e
   exact ClOk.get h.2 x c e
def clAll (ns:List (Str×NameKind)) (cl:List (Str×Addr)):Bool:=ns.all fun y=>match y.2 with
 | .cell=>(cl.lookup y.1).isSome
 | .free=>(cl.lookup y.1).isSome
 | _=>true
theorem zrt {ns:List (Str×NameKind)} {cl:List (Str×Addr)} (h:clAll ns cl=true) (x:Str) (q:ns.lookup x=some .cell\/ns.lookup x=some .free):∃ c,cl.lookup x=some c:=by
 unfold clAll at h
 rw [List.all_eq_true] at h
 rcases q with q | q
 ·have:=h _ (PySem.mem_of_lookup q)
  exact Option.isSome_iff_exists.mp this
 ·have:=h _ (PySem.mem_of_lookup q)
  exact Option.isSome_iff_exists.mp this
theorem pe_lc {X:Cx} {elt target iter:Expr} {ifs:List Expr} {scope:Scope} {pos:Pos} {cl:List (Str×Addr)} (ts:List Str) (fr:List (Str×Nat)) {wi:TI} {g:TG} {tc:TT} {te:TE} (hcalm:X.calm=true)
    (hclos:closureFor scope X.env=pure cl) (hcell:∀ y∈scope.names,y.2≠.cell) (hkind:scope.kind = .function) (hnames:∀ y∈scope.names,y.2 = .local->scope.names.lookup y.1=some .local)
    (hcl:ClOk X.env cl) (hhas:clAll (relabel scope X.env).names cl=true) (hfr:FrOk X (relabel scope X.env) fr)
    (hi:PI X target iter wi) (hg:∀ fp s H,PG (zfb X scope cl (ts++fr.map (·.1)) fp s H) target g) (hc:∀ fp s H,PIfs (zfb X scope cl (ts++fr.map (·.1)) fp s H) ifs tc)
    (he:∀ fp s H,PE (zfb X scope cl (ts++fr.map (·.1)) fp s H) elt te) (hs:∀ x,foldedSetIterable iter X.env x=pure x:=by intro _; rfl) :
    PE X (.ListComp elt [⟨target,iter,ifs,0⟩] scope pos) (tComp ts.length fr wi g tc te) :=
  zvp hcalm hclos hcell hkind hnames hcl.get (fun x q=>zrt hhas x q) hfr hi hg hc he hs
end L2
namespace L2
open PySem PySem.Spec PyProof.Rows
def rSum (K:PySem.W.Frag):List V->Hp->VK->Prop:=fun xs H Q=>∃ (p:Addr) (ns:List Int),xs = [.ref p]/\SqL K H p (ns.map V.int)/\Q (.int ns.sum) H
def rAll (K:PySem.W.Frag):List V->Hp->VK->Prop:=fun xs H Q=>∃ (p:Addr) (bs:List Bool),xs = [.ref p]/\SqL K H p (bs.map V.bl)/\Q (.bl (bs.all id)) H
theorem ztl {bs:List Bool}:∀ {us:List Value},Vals (bs.map V.bl) us->us=bs.map Value.bool:=by
 induction bs with
 | nil=>intro us r; cases r; rfl
 | cons b r ih =>
  intro us h
  cases h with
  | cons h1 h2=>rw [show _=Value.bool b from h1,ih h2]; rfl
theorem zru {bs:List Bool} (f:Nat->Bool) (h:∀ i,i<bs.length->f i=bs.getD i false):(List.range bs.length).all f=bs.all id:=by
 rw [Bool.eq_iff_iff,List.all_eq_true,List.all_eq_true]
 constructor
 ·intro q b hb
  obtain ⟨i,hi,e⟩:=List.getElem_of_mem hb
  have:=q i (List.mem_range.mpr hi)
  rw [h i hi] at this
  rw [<- e]
  simpa [List.getD_eq_getElem?_getD,hi] using this
 ·intro q i hi
  have hi:=List.mem_range.mp hi
  rw [h i hi]
  have:=q bs[i] (List.getElem_mem hi)
  simpa [List.getD_eq_getElem?_getD,hi] using this
section
variable {X:Cx}
theorem zmh (K:PySem.W.Frag) (h:X.K=K) (hc:X.calm=true):CallR X (.builtin "sum") (rSum K):=by
 subst h
 intro pins s σ H xs us Q I r h
 obtain ⟨p,ns,rfl,hq,q⟩:=h
 obtain ⟨u,rfl,ru⟩:=vals1 r
 cases (show u=Value.ref p from ru)
 obtain ⟨its,rv,hp,hz⟩:=I.list hq
 have hi:=zqc rv
 obtain ⟨zs,e⟩:=hi.allInts.items
 have hl:=hp.isList
 rw [e] at hl
 refine sum_intListG (I.ok.hd hc) hl fun h' tk t' hk=>⟨.int ns.sum,H,I.kept (t':=tk) hk,⟨t',?_⟩,q⟩
 rw [preSum_eq,List.take_of_length_le (by simp)]
 have:=hi.numsOf
 rw [show its=its.toArray.toList from rfl,e,nums_intItems] at this
 rw [<- this]
theorem zqf {pins:List (Addr×Obj)} {s:Shared} {σ:St} {H:Hp} {p:Addr} {bs:List Bool} {Q:Value->Shared->Prop} (I:Inv X pins σ H s) (hc:X.calm=true) (hq:SqL X.K H p (bs.map V.bl))
    (h:∀ s₂:Shared,(∀ (h':Heap) (tk:Nat),(∀ b o,b ∉ [s.heap.objs.size]->s₂.heap.get? b=some o->h'.get? b=some o)->Inv X pins σ H { s₂ with heap:=h',toks:=tk }) ->
      (s₂.heap.IsListIter s.heap.objs.size p 0/\s₂.heap.IsList p (bs.map Value.bool).toArray)->p≠s.heap.objs.size->Q (.ref s.heap.objs.size) s₂) (E:Value->Shared->Prop) :
    wpAny (model X.prog X.w) X.A.in1 (pyIter (.ref p)) Q E s:=by
  obtain ⟨its,rv,hp,hz⟩:=I.list hq
  rw [ztl rv] at hp
  have hl:=hp.isList
  have hlt:p<s.heap.objs.size:=by obtain ⟨_,e,_⟩:=id hl; exact Heap.lt_size e
  refine wpAny_pyIter_list hl (h _ (fun h' tk hk=>I.kept (t':=tk) fun b o e=>?_) ⟨⟨_,Heap.get?_push_size _ rfl,rfl,rfl⟩,hl.push _⟩ (Nat.ne_of_lt hlt))
  exact hk b o (by simp [Nat.ne_of_lt (Heap.lt_size e)]) (Heap.get?_push_of_some _ e)
theorem znt {A:Around} {bs:List Bool}:TruthOf X.prog X.w A (fun i v=>(bs.map Value.bool).toArray[i]? = some v) (fun i=>bs.getD i false):=by
 intro i v s Q E hP hQ
 have e:bs[i]?.map Value.bool=some v:=by simpa using hP
 cases q:bs[i]? with
 | none=>rw [q] at e; cases e
 | some b =>
  rw [q] at e
  cases e
  dsimp only at hQ
  rw [List.getD_eq_getElem?_getD,q] at hQ
  exact wpAny_truthy_bool hQ
theorem zrv (K:PySem.W.Frag) (h:X.K=K) (hc:X.calm=true):CallR X (.builtin "all") (rAll K):=by
 subst h
 intro pins s σ H xs us Q I r h
 obtain ⟨p,bs,rfl,hq,q⟩:=h
 obtain ⟨u,rfl,ru⟩:=vals1 r
 cases (show u=Value.ref p from ru)
 refine call_all_walk (zqf I hc hq (fun s₂ J st hne=>⟨_,_,_,_,_,_,_,rfl,Walks.list (A:=X.A.in1) (I.ok.hd hc) _ p hne _,st,znt,fun h' tk hk=>⟨.bl _,H,J h' tk hk,?_,q⟩⟩) _)
 show Value.bool _=Value.bool _
 congr 1
 rw [List.size_toArray,List.length_map]
 exact zru _ fun i hi=>rfl
end
end L2
namespace L2
open PySem PySem.Spec PyProof.Rows
def CompG (J:It) (g:TG) (tc:TT) (te:TE) (D:Addr) (τ:St) (H:Hp) (Q:VK):Prop :=
 ∃ W:Nat->Nat->St->Hp->Prop,(∃ m,W 0 m τ H)/\∀ i m τ H',W i m τ H' ->
  (J.stop i H'/\Q (.ref D) H')\/(J.go i H'/\∃ N:St->Hp->Prop,(∀ τ' H'',N τ' H''->∃ m',m' < m/\W (i+1) m' τ' H'') /\
   ∀ x H2,J.yld i H' x H2->g x τ H2 fun τ2 H3=>tc τ2 H3 fun b H4=>if b=true then te τ2 H4 fun y H5=>∃ ys,H5 D=some (.lst ys)/\ys.length<sizeLine/\N τ2 (upd H5 D (.lst (ys++[y]))) else N τ2 H4)
theorem tComp_eq {nt:Nat} {fr:List (Str×Nat)} {wi:TI} {g:TG} {tc:TT} {te:TE} {σ:St} {H:Hp} {Q:VK} :
    tComp nt fr wi g tc te σ H Q=wi σ H fun J H1=>∀ D,H1 D=none->CompG J g tc te D (List.replicate nt none++fr.map fun p=>(σ[p.2]?).join) (upd H1 D (.lst [])) Q:=rfl
theorem zit {K:PySem.W.Frag} {a:Addr} {xs:List V} {g:TG} {tc:TT} {te:TE} {D:Addr} {τ:St} {H:Hp} {Q:VK} (Pv:Nat->St->Hp->Prop) (h0:Pv 0 τ H) (hl:∀ i τ H,i<=xs.length->Pv i τ H->SqL K H a xs)
    (hs:∀ i x τ H,xs[i]? = some x->Pv i τ H->g x τ H fun τ2 H3=>tc τ2 H3 fun b H4=>if b=true then te τ2 H4 fun y H5=>∃ ys,H5 D=some (.lst ys)/\ys.length<sizeLine/\Pv (i+1) τ2 (upd H5 D (.lst (ys++[y]))) else Pv (i+1) τ2 H4)
    (hd:∀ τ H,Pv xs.length τ H->Q (.ref D) H) :
    CompG (Itl K a) g tc te D τ H Q:=by
  refine ⟨fun i m τ H=>m=xs.length-i/\i<=xs.length/\Pv i τ H,⟨xs.length,by simp,Nat.zero_le _,h0⟩,?_⟩
  rintro i m τ H ⟨rfl,hi,p⟩
  have q:=hl i τ H hi p
  by_cases hlt:i<xs.length
  · refine .inr ⟨⟨xs,xs[i],q,by simp [hlt]⟩,Pv (i+1),fun τ' H' p'=>⟨xs.length-(i+1),by omega,rfl,hlt,p'⟩,fun x H2 z=>?_⟩
    obtain ⟨rfl,hx⟩:=z
    exact hs i x τ H2 (hx xs q) p
  · have e:i=xs.length:=by omega
    subst e
    exact .inl ⟨⟨xs,q,Nat.le_refl _⟩,hd τ H p⟩
abbrev Q4:=Int×Int×Int×Int
def q4 (q:Q4):List V:=[.int q.1,.int q.2.1,.int q.2.2.1,.int q.2.2.2]
theorem zrw (ns:List Int) (lo hi:Option Int):∃ ms:List Int,cutV (ns.map V.int) lo hi=ms.map V.int/\ms.length<=ns.length:=by
 refine ⟨(ns.drop (HT.sIx (ns.map V.int).length 0 lo)).take (HT.sIx (ns.map V.int).length (ns.map V.int).length hi-HT.sIx (ns.map V.int).length 0 lo),?_,?_⟩
 ·unfold cutV; rw [List.map_take,List.map_drop]
 ·rw [List.length_take,List.length_drop]; omega
mutual
theorem zkx:∀ d:PyData,d.canLay0=true->PyData.eqv d d=true
 | .none,_=>rfl
 | .bool b,_=>by simp [PyData.eqv]
 | .int i,_=>by simp [PyData.eqv]
 | .str x,_=>by simp [PyData.eqv]
 | .list xs,h=>by
  have h:PyData.canLayAll0 xs=true:=by simpa only [PyData.canLay0] using h
  simpa only [PyData.eqv] using zgv xs h
 | .tuple xs,h=>by
  have h:PyData.canLayAll0 xs=true:=by simpa only [PyData.canLay0] using h
  simpa only [PyData.eqv] using zgv xs h
 | .dict _,h=>by simp [PyData.canLay0] at h
theorem zgv:∀ ds:List PyData,PyData.canLayAll0 ds=true->PyData.eqvAll ds ds=true
 | [],_=>rfl
 | d :: r,h=>by
  simp only [PyData.canLayAll0,Bool.and_eq_true] at h
  simp only [PyData.eqvAll,Bool.and_eq_true]
  exact ⟨zkx d h.1,zgv r h.2⟩
end
theorem ziu {α:Type} {f:α->PyData} {n:Nat} (h:∀ a,(f a).depth<=n):∀ l:List α,PyData.depthAll (l.map f)<=n
 | []=>Nat.zero_le _
 | a :: r=>by
  have h1:=h a
  have h2:=ziu h r
  simp only [List.map_cons,PyData.depthAll]
  omega
end L2
namespace L2
open PySem PySem.Spec PyProof.Rows
end L2
namespace L2
open PySem PySem.Spec PyProof.Rows
section
variable {X:Cx}
theorem ziv (K:PySem.W.Frag) (h:X.K=K) (hu:X.A.units+64<cLine):OpR X (compareOp .Eq) (rEqD K):=h ▸ zxr hu
theorem zky (K:PySem.W.Frag) (h:X.K=K) (hu:X.A.units+64<cLine):OpR X (compareOp .NotEq) (rNeD K):=h ▸ zxs hu
end
theorem eq_at {K:PySem.W.Frag} {H:Hp} {x y:V} {d e:PyData} {Q:VK} (hx:Deep K H x d) (hy:Deep K H y e) (sd:PySem.SeqAt.shaped d=true) (se:PySem.SeqAt.shaped e=true) (q:Q (.bl (PyData.eqv d e)) H):rEqD K x y H Q:=⟨d,e,hx,hy,sd,se,q⟩
theorem ne_at {K:PySem.W.Frag} {H:Hp} {x y:V} {d e:PyData} {Q:VK} (hx:Deep K H x d) (hy:Deep K H y e) (sd:PySem.SeqAt.shaped d=true) (se:PySem.SeqAt.shaped e=true) (q:Q (.bl (!PyData.eqv d e)) H):rNeD K x y H Q:=⟨d,e,hx,hy,sd,se,q⟩
theorem zkz {K:PySem.W.Frag} {H:Hp} {x y:V} {d:PyData} {Q:VK} (hx:Deep K H x d) (hy:Deep K H y d) (sd:PySem.SeqAt.shaped d=true) (q:Q (.bl false) H):rNeD K x y H Q:=by
 refine ne_at hx hy sd sd ?_
 rw [zkx d (PySem.SeqAt.canLay_of_shaped sd)]; exact q
theorem ziw {K:PySem.W.Frag} {H:Hp} {x y:V} {d:PyData} {Q:VK} (hx:Deep K H x d) (hy:Deep K H y d) (sd:PySem.SeqAt.shaped d=true) (q:Q (.bl true) H):rEqD K x y H Q:=by
 refine eq_at hx hy sd sd ?_
 rw [zkx d (PySem.SeqAt.canLay_of_shaped sd)]; exact q
theorem zmi {K:PySem.W.Frag} {H:Hp} {p:Addr} {ys:List V} {Q:VK} (h:SqL K H p ys) (q:Q (.int ys.length) H):rLen K [.ref p] H Q:=⟨p,ys,rfl,.inl h,q⟩
theorem zmj {K:PySem.W.Frag} {H:Hp} {p:Addr} {xs:List V} {lo hi:Option Int} {Q:VK} (h:SqL K H p xs) (q:∀ l,H l=none->Q (.ref l) (upd H l (.lst (cutV xs lo hi)))):rSlL K (.ref p) lo hi H Q:=⟨p,xs,rfl,h,q⟩
end L2
namespace L2
open PySem PySem.Spec PyProof.Rows
section
variable {prog:Program} {w:World} {A:Around} {R:Result->Shared->Prop}
end
end L2
namespace L2
open PySem PySem.Spec PyProof.Rows
def XTr (B:Heap) (e:Addr) (h:Heap) (vs:Array Value):Option Value->Prop
 | none=>vs[1]? = some Value.none
 | some f=>∃ T oT ts,vs[1]? = some (.ref T)/\B.get? T=none/\T≠e/\h.get? T=some oT/\oT.data = .fields ts/\ts[3]? = some f
structure XAt (B:Heap) (e:Addr) (cls:Value) (dct:Option Addr) (fl:Option Value) (h:Heap):Prop where
 stay:B.StaysIn h
 new:B.get? e=none
 ex:∃ oe vs,h.get? e=some oe/\oe.cls=cls/\oe.dict=dct/\oe.data = .fields vs/\1<vs.size/\XTr B e h vs fl
structure UpS (h h':Heap):Prop where
 sl:∀ b o,h.get? b=some o->(∀ vs,o.data≠.fields vs)->∃ sl,h'.get? b=some { o with slots:=sl }
 th:∀ b o,h.get? b=some o->∃ o',h'.get? b=some o'
theorem UpS.trans {h h1 h2:Heap} (a:UpS h h1) (b:UpS h1 h2):UpS h h2:=by
 refine ⟨fun c o e n=>?_,fun c o e=>?_⟩
 ·obtain ⟨s1,e1⟩:=a.sl c o e n
  obtain ⟨s2,e2⟩:=b.sl c _ e1 n
  exact ⟨s2,e2⟩
 ·obtain ⟨o1,e1⟩:=a.th c o e
  exact b.th c o1 e1
theorem UpS.funs {h h' B:Heap} {l:List Env} (u:UpS h h') (f:h.FunFrames B l):h'.FunFrames B l:=f.of_keeps fun b o e n=>by
 obtain ⟨sl,q⟩:=u.sl b o e n
 exact ⟨_,q,rfl⟩
section
variable {M:Model} {A:Around} {E:Value->Shared->Prop} {s:Shared} {B:Heap} {env:Env} {outer:List Env} {L e:Addr} {cls:Value} {dct:Option Addr}
theorem zpb {fl:Option Value} {head:Value} {b1:Bool} {Q:Unit->Shared->Prop} (fr:A.frames=some (env :: outer)) (ff:s.heap.FunFrames B (env :: outer)) (hf:env.frame=some L) (x:XAt B e cls dct fl s.heap)
    (h:∀ h',XAt B e cls dct (some (rawInt L)) h'->UpS s.heap h'->Q () { s with heap:=h' }) :
    wpAny M A (do let a <- frameOf env; let pl <- entryPlaceOf L b1; let b <- EntryCells.newEntry head a .none (rawInt L) .none pl; setField (.ref e) 1 b) Q E s:=by
  obtain ⟨stay,new,oe,vs,oe1,oe2,oe3,oe4,oe5,_⟩:=x
  have nf:e ∉ (env :: outer).filterMap (·.frame):=fun z=>by
    obtain ⟨_,o,q,n⟩:=ff.mem z
    rw [oe1] at q
    cases q
    exact n vs oe4
  refine wpAny_bind (wpAny_frameOf_fun fr ff hf fun h1 sl=>wpAny_bind (wpAny_entryPlaceOf fun pl ip=>?_))
  have e1:h1.get? e=some oe:=(sl.2.1 e nf).trans oe1
  have st1:B.StaysIn h1:=fun b o q=>(sl.2.1 b fun z=>by rw [(ff.mem z).1] at q; cases q).trans (stay b o q)
  unfold EntryCells.newEntry newFields
  refine wpAny_bind (wpAny_newObj_type ?_ (ip.sizeOk5 _ _ _ _ _))
  generalize hT:({ cls:=.type "traceback", dict:=none,data:=.fields ([head,.ref L,.none,rawInt L,.none]++(if pl.isEmpty then List.replicate 6 Value.none else pl)).toArray }:Obj)=oT
  have e2:(h1.push oT).get? e=some oe:=Heap.get?_push_of_some _ e1
  have ne:h1.objs.size≠e:=Nat.ne_of_gt (Heap.lt_size e1)
  refine wpAny_setField e2 oe4 oe5 (h _ ⟨fun b o q=>?_,new,_,_,Heap.get?_update_self _ e2 (Obj.isFreed_of_fields (Obj.data_mapFields oe4 _)),(Obj.cls_mapFields _ _).trans oe2,?_,Obj.data_mapFields oe4 _,by simpa using oe5,h1.objs.size,oT,_,by simp [oe5],st1.fresh,ne,?_,by rw [<- hT],?_⟩ ⟨fun b o q n=>?_,fun b o q=>?_⟩)
  · rw [Heap.get?_update_other _ _ fun z=>by rw [<- z,new] at q; cases q]
    exact Heap.get?_push_of_some _ (st1 b o q)
  · rw [<- oe3]; cases oe with | mk c d da sl=>cases da <;> rfl
  · rw [Heap.get?_update_other _ _ (Ne.symm ne)]
    exact Heap.get?_push_size _ (by rw [<- hT]; rfl)
  · rcases ip with rfl | ⟨_,_,_,_,_,_,_,rfl⟩ <;> simp
  · obtain ⟨s1,q1⟩:=sl.2.2 b o q
    refine ⟨s1,?_⟩
    rw [Heap.get?_update_other _ _ fun z=>by rw [<- z,oe1] at q; cases q; exact n vs oe4]
    exact Heap.get?_push_of_some _ q1
  · by_cases z:b=e
    · rw [z]; exact ⟨_,Heap.get?_update_self _ e2 (Obj.isFreed_of_fields (Obj.data_mapFields oe4 _))⟩
    · obtain ⟨s1,q1⟩:=sl.2.2 b o q
      exact ⟨_,(Heap.get?_update_other _ _ (Ne.symm z)).trans (Heap.get?_push_of_some _ q1)⟩
theorem znu {f:Value} {Q:Unit->Shared->Prop} (x:XAt B e cls dct (some f) s.heap) (h:∀ h',XAt B e cls dct (some .none) h'->UpS s.heap h'->Q () { s with heap:=h' }):wpAny M A (setFlight (.ref e) none) Q E s:=by
 obtain ⟨stay,new,oe,vs,oe1,oe2,oe3,oe4,oe5,T,oT,ts,t1,t2,t3,t4,t5,t6⟩:=x
 unfold setFlight
 refine wpAny_bind (wpAny_field oe1 oe4 t1 ?_)
 rw [if_pos (show (Value.ref T != Value.none)=true by simp)]
 have h3:3<ts.size:=(Array.getElem?_eq_some_iff.mp t6).1
 have oth:∀ (g:Obj->Obj) b,b≠T->(s.heap.update T g).get? b=s.heap.get? b:=fun g b z=>Heap.get?_update_other _ _ (Ne.symm z)
 refine wpAny_setField t4 t5 h3 (h _ ⟨fun b o q=>?_,new,oe,vs,by rw [oth _ _ (Ne.symm t3)]; exact oe1,oe2,oe3,oe4,oe5,T,_,_,t1,t2,t3,Heap.get?_update_self _ t4 (Obj.isFreed_of_fields (Obj.data_mapFields t5 _)),Obj.data_mapFields t5 _,by simp [h3]⟩ ⟨fun b o q n=>⟨o.slots,?_⟩,fun b o q=>?_⟩)
 ·rw [oth _ _ fun z=>by rw [z,t2] at q; cases q]
  exact stay b o q
 ·rw [oth _ _ fun z=>by rw [z,t4] at q; cases q; exact n ts t5]
  exact q
 ·by_cases z:b=T
  ·rw [z]; exact ⟨_,Heap.get?_update_self _ t4 (Obj.isFreed_of_fields (Obj.data_mapFields t5 _))⟩
  ·exact ⟨o,(oth _ _ z).trans q⟩
theorem zrx {fl:Option Value} {Q:Unit->Shared->Prop} (fr:A.frames=some (env :: outer)) (ff:s.heap.FunFrames B (env :: outer)) (hf:env.frame=some L) (x:XAt B e cls dct fl s.heap) (hfl:fl=none\/fl=some .none)
    (h:∀ h',XAt B e cls dct (some (rawInt L)) h'->UpS s.heap h'->Q () { s with heap:=h' }):wpAny M A (noteFrame (.ref e) env) Q E s:=by
  have x0:=x
  obtain ⟨stay,new,oe,vs,oe1,oe2,oe3,oe4,oe5,tr⟩:=x
  unfold noteFrame
  simp only [hf]
  rcases hfl with rfl | rfl
  · refine wpAny_bind (wpAny_field oe1 oe4 tr ?_)
    rw [if_neg (by decide)]
    exact zpb fr ff hf x0 h
  · obtain ⟨T,oT,ts,t1,t2,t3,t4,t5,t6⟩:=tr
    refine wpAny_bind (wpAny_field oe1 oe4 t1 ?_)
    rw [if_pos (show (Value.ref T != Value.none)=true by simp)]
    refine wpAny_bind (wpAny_field t4 t5 t6 ?_)
    rw [if_neg (show ¬ ((Value.none == rawInt L)=true) by simp [rawInt])]
    have h3:3<ts.size:=(Array.getElem?_eq_some_iff.mp t6).1
    have oth:∀ (g:Obj->Obj) b,b≠T->(s.heap.update T g).get? b=s.heap.get? b:=fun g b z=>Heap.get?_update_other _ _ (Ne.symm z)
    have up:∀ g,UpS s.heap (s.heap.update T (Obj.mapFields g)):=fun g=>⟨fun b o q n=>⟨o.slots,by
      rw [oth _ _ fun z=>by rw [z,t4] at q; cases q; exact n ts t5]; exact q⟩,fun b o q=>by
      by_cases z:b=T
      · rw [z]; exact ⟨_,Heap.get?_update_self _ t4 (Obj.isFreed_of_fields (Obj.data_mapFields t5 _))⟩
      · exact ⟨o,(oth _ _ z).trans q⟩⟩
    refine wpAny_bind (wpAny_setField t4 t5 h3 ?_)
    refine zpb (fl:=some .none) fr ((up _).funs ff) hf ⟨fun b o q=>?_,new,oe,vs,by rw [oth _ _ (Ne.symm t3)]; exact oe1,oe2,oe3,oe4,oe5,T,_,_,t1,t2,t3,Heap.get?_update_self _ t4 (Obj.isFreed_of_fields (Obj.data_mapFields t5 _)),Obj.data_mapFields t5 _,by simp [h3]⟩ fun h' a b=>h h' a ((up _).trans b)
    rw [oth _ _ fun z=>by rw [z,t2] at q; cases q]
    exact stay b o q
theorem zpc {fl:Option Value} {Q:Unit->Shared->Prop} (fr:A.frames=some (env :: outer)) (ff:s.heap.FunFrames B (env :: outer)) (hf:env.frame=some L) (x:XAt B e cls dct fl s.heap) (hfl:fl=none\/fl=some .none)
    (h:∀ h',XAt B e cls dct (some .none) h'->UpS s.heap h'->Q () { s with heap:=h' }):wpAny M A (leaving env (.ref e)) Q E s:=by
  unfold leaving
  exact wpAny_bind (zrx fr ff hf x hfl fun h1 x1 u1=>znu (s:={ s with heap:=h1 }) x1 fun h2 x2 u2=>h h2 x2 (u1.trans u2))
end
end L2
namespace L2
open PySem PySem.Spec PyProof.Rows
abbrev bmV:List Value:=[.type "ValueError", .type "Exception", .type "BaseException", .type "object"]
structure XC (K:PySem.W.Frag) (C:Addr):Prop where
 hd:PySem.W.hasDictIn K C=true
 ga:PySem.W.findIn K (.ref C) "__getattribute__" = some (some (.builtin "BaseException.__getattribute__"))
 gn:PySem.W.findIn K (.ref C) "__getattr__" = some none
 sa:PySem.W.findIn K (.ref C) "__setattr__" = some (some (.builtin "object.__setattr__"))
 cl:PySem.W.findIn K (.ref C) "__class__" = some (some (.builtin "object.__class__"))
 kg:PySem.W.specialIn K (.builtin "object.__class__") "__get__" = some (some (.builtin "getset_descriptor.__get__"))
 kt:PySem.W.takesIn K (.builtin "object.__class__")=some true
 be:PySem.W.mroIn K C (.type "BaseException")=some true
 ob:PySem.W.mroIn K C (.type "object")=some true
 ex:∃ nm q N bs bm hdct sn sub ab col dd k0 k1 k2 k3 k5,K.lookup C=some (excClassObj nm q C N bs bm hdct sn sub ab col dd k0 k1 k2 k3 k5 "ValueError.__new__")/\PySem.W.tailIn K bmV bm=true
theorem XC.plain {K:PySem.W.Frag} {C:Addr} (q:PySem.W.excIn K C bmV "ValueError.__new__" = true) :
    ∃ nm q N bs bm hdct sn sub ab col dd k0 k1 k2 k3 k5,K.lookup C=some (excClassObj nm q C N bs bm hdct sn sub ab col dd k0 k1 k2 k3 k5 "ValueError.__new__")/\PySem.W.tailIn K bmV bm=true/\PySem.W.nsOkIn K N=true/\PySem.W.nsIn K N "__init__" = some none:=by
  unfold PySem.W.excIn at q
  split at q
  · rename_i dd cd sl ho
    split at q
    · rename_i C' bm k0 k1 k2 k3 n k5 hm hs
      simp only [Bool.and_eq_true,beq_iff_eq,Bool.not_eq_true'] at q
      obtain ⟨⟨⟨⟨⟨rfl,rfl⟩,d1⟩,ht⟩,hok⟩,hni⟩:=q
      obtain ⟨nm,bs,mro,ns,qn,hd,sn,sub,ab,col,del⟩:=cd
      dsimp only at hm d1 hok hni
      subst hm d1
      obtain ⟨l⟩:=sl
      simp only at hs
      subst hs
      exact ⟨nm,qn,ns,bs,bm,hd,sn,sub,ab,col,dd,k0,k1,k2,k3,k5,ho,ht,hok,hni⟩
    · cases q
  · cases q
section
variable {prog:Program} {w:World} {A:Around} {E:Value->Shared->Prop} {s:Shared} {K:PySem.W.Frag} {x C:Addr} {ox:Obj} {od:Option Obj}
theorem zxt {us:List Value} {Q:Value->Shared->Prop} (X:K.In s.heap) (q:PySem.W.excIn K C bmV "ValueError.__new__" = true) (hl:us.length<=sizeLine)
    (h:∀ h' e,Heap.MadeExcOf s.heap h' e (.ref C) us->Q (.ref e) { s with heap:=h' }):wpAny (model prog w) A (call (.ref C) us) Q E s:=by
  obtain ⟨nm,qn,N,bs,bm,hdct,sn,sub,ab,col,dd,k0,k1,k2,k3,k5,lk,tl,nk,ni⟩:=XC.plain q
  obtain ⟨hp,g,d,t,os⟩:=s
  exact wpAny_call_exc_subU PySem.F.excBase_ValueError rfl PySem.F.excBase_ValueError (PySem.W.tail_of_in X tl) (X _ _ lk) (.of_isNs (PySem.W.isNs_of_in X nk)) (PySem.W.nsMap_none_of_in X nk ni) (fun h' e m=>h h' e m) hl
theorem zxu {env:Env} {y:Sem Value} {Q:Flow->Shared->Prop} (hh:A.handled=none)
    (h:wpAny (model prog w) A y (fun v s1=>∃ C e oe vs,XC K C/\v = .ref e/\K.In s1.heap/\s1.heap.get? e=some oe/\oe.cls = .ref C/\oe.data = .fields vs/\vs[1]? = some Value.none/\E (.ref e) s1) E s) :
    wpAny (model prog w) A (raiseStmt env (some y) none) Q E s:=by
  unfold raiseStmt
  refine wpAny_bind (wpAny_mono h (fun v s1 z=>?_) fun _ _ z=>z)
  obtain ⟨C,e,oe,vs,c,rfl,X,e1,e2,e3,e4,fin⟩:=z
  obtain ⟨nm,qn,N,bs,bm,hdct,sn,sub,ab,col,dd,k0,k1,k2,k3,k5,lk,tl⟩:=c.ex
  obtain ⟨hp,g,d,t,os⟩:=s1
  have cl:=X _ _ lk
  have hcB:(Value.ref C :: bm).contains (.type "BaseException")=true:=by rw [List.contains_cons,(PySem.W.tail_of_in X tl).hasType (show bmV.contains (.type "BaseException")=true from rfl),Bool.or_true]
  obtain ⟨oc,od,oda,osl⟩:=oe
  dsimp only at e2 e3
  subst e2 e3
  have fl:∀ {α:Type} {QQ:Value->Shared->Prop},QQ .none ⟨hp,g,d,t,os⟩->wpAny (model prog w) A (field (.ref e) 1) QQ E ⟨hp,g,d,t,os⟩:=fun {_ _} z=>wpAny_field e1 rfl e4 z
  repeat (first | (with_reducible refine wpAny_isSubtype_exc cl ?_; rw [hcB]) | with_reducible refine wpAny_loadPart_at e1 ?_ | with_reducible refine wpAny_loadPart_at cl ?_ | with_reducible refine wpAny_field e1 rfl e4 ?_ | wp_step)
  exact wpAny_raiseNew_none hh fin
end
end L2
namespace L2
open PySem PySem.Spec PyProof.Rows
def XOb (e C:Addr) (dct:Option Addr) (fr:Bool) (h:Heap):Prop:=∃ oe vs,h.get? e=some oe/\oe.cls = .ref C/\oe.dict=dct/\oe.data = .fields vs/\1<vs.size/\(fr=true->vs[1]? = some Value.none)
def excO (e C:Addr) (dct:Option Addr) (fr:Bool):HO:=.ext (XOb e C dct fr)
section
variable {P:Program} {w:World} {H:Hp} {h:Heap}
theorem znv {e C:Addr} {dct:Option Addr} {fr:Bool} (x:XOb e C dct fr h):ObjOk P w H h e (excO e C dct fr):=by
 refine ⟨x,?_,fun h1 h2 y k=>?_⟩
 ·obtain ⟨oe,vs,e1,_⟩:=x
  exact ⟨oe,e1⟩
 ·obtain ⟨oe,vs,e1,r⟩:=y
  exact ⟨oe,vs,k _ e1,r⟩
theorem ObjOk.there {a:Addr} {o:HO} (x:ObjOk P w H h a o):∃ ob,h.get? a=some ob:=by
 cases o with
 | lst xs=>obtain ⟨_,_,_,_,e⟩:=x; exact ⟨_,e⟩
 | tup xs=>obtain ⟨_,_,_,_,e,_⟩:=x; exact ⟨_,e⟩
 | dK kvs=>obtain ⟨_,_,_,_,o,_,_,e,_⟩:=x; exact ⟨_,e⟩
 | dT kvs=>obtain ⟨_,_,_,_,o,_,_,e,_⟩:=x; exact ⟨_,e⟩
 | set S n=>obtain ⟨o,_,_,_,e,_⟩:=x; exact ⟨_,e⟩
 | ins C dx fs=>obtain ⟨_,_,_,e,_⟩:=x; exact ⟨_,e⟩
 | own y=>exact x
 | xd fs=>obtain ⟨_,⟨_,_,_,e,_⟩,_⟩:=x; exact ⟨_,e⟩
 | rng lo hi=>obtain ⟨_,_,_,e⟩:=x; exact ⟨_,e⟩
 | frz ob u=>obtain ⟨e,_⟩:=x; exact ⟨_,e⟩
 | tbl ps=>exact ⟨_,show h.get? a=some _ from x⟩
 | met f y=>exact ⟨_,show h.get? a=some _ from x⟩
 | ext φ=>exact x.2.1
theorem HOk.exc (x:HOk P w H h) {e C:Addr} {dct:Option Addr} {fr:Bool} (q:H e=some (excO e C dct fr)):XOb e C dct fr h:=(show ObjOk P w H h e (excO e C dct fr) from x e _ q).1
end
structure Fly (P:Program) (w:World) (B:Heap) (l:List Env) (e C:Addr) (dct:Option Addr) (H:Hp) (h:Heap):Prop where
 at_:∃ fl,(fl=none\/fl=some Value.none)/\XAt B e (.ref C) dct fl h
 ff:h.FunFrames B l
 hok:HOk P w H h
 he:H e=some (excO e C dct false)
 cov:∀ a o,H a=some o->a≠e->∃ ob,B.get? a=some ob
def CXX (P:Program) (w:World):CXT:=fun outer H s E e s'=>∃ B ea C dct H',e = .ref ea/\s'.os=s.os/\AllBare s'.gens/\Fly P w B outer ea C dct H' s'.heap/\Un (frs outer) [] H H' s.heap s'.heap /\
 (∀ b o,s.heap.get? b=some o->H b=none->b ∉ frs outer->B.get? b=some o)/\E (.ref ea) dct H'
theorem zpd {P:Program} {w:World} {B:Heap} {e C:Addr} {dct:Option Addr} {fl:Option Value} {H:Hp} {h h':Heap} (x:HOk P w H h) (he:H e=some (excO e C dct false)) (cov:∀ a o,H a=some o->a≠e->∃ ob,B.get? a=some ob) (st:B.StaysIn h)
    (y:XAt B e (.ref C) dct fl h'):HOk P w H h':=fun a o q=>by
  by_cases z:a=e
  · subst z
    rw [he] at q
    cases q
    obtain ⟨oe,vs,e1,e2,e3,e4,e5,_⟩:=y.ex
    exact znv ⟨oe,vs,e1,e2,e3,e4,e5,fun z=>by cases z⟩
  · refine (x a o q).stay (fun b u hb g=>?_) (fun _ q=>q) fun _ _ q=>q
    have hbe:∃ o',H b=some o'/\b≠e:=by
      rcases hb with rfl | hb
      · exact ⟨_,q,z⟩
      · refine ⟨_,hb,fun y=>?_⟩
        rw [y,he] at hb
        cases hb
    obtain ⟨o',h1,h2⟩:=hbe
    obtain ⟨ob,h3⟩:=cov b o' h1 h2
    have h4:=st b ob h3
    rw [g] at h4
    cases h4
    exact y.stay b _ h3
section
variable {X:Cx} {pins:List (Addr×Obj)} {σ:St} {H H':Hp} {s:Shared} {h':Heap}
theorem Inv.out (I:Inv X pins σ H s) (hex:X.ex = []) (u:Un (frs X.stack) [] H H' s.heap h'):Un X.fs [] X.H₀ H' X.s₀.heap h':=by
 have nl:∀ b o,X.s₀.heap.get? b=some o->b≠X.env.locals:=fun b o q z=>absurd (Nat.lt_of_lt_of_le (Heap.lt_size q) (by rw [z]; exact I.ok.above)) (Nat.lt_irrefl _)
 have nx:∀ b:Addr,b ∉ X.ex:=fun b=>by rw [hex]; simp
 have ns:∀ b o,X.s₀.heap.get? b=some o->b ∉ X.fs->b ∉ frs X.stack:=fun b o q n z=>by
  rcases List.mem_cons.mp (I.stkSub b z) with y | y
  ·exact nl b o q y
  ·exact n y
 refine ⟨fun b o q n hb _=>u.keep b o (I.base.keep b o q n hb (nx b)) (I.base.free b o q n (nx b)) (ns b o q hb) (by simp),fun b o q n hb _=>?_,fun b o q n _=>?_,fun b o q _=>?_,fun b xs q=>u.tups b xs (I.base.tups b xs q),fun b o v q=>u.frzs b o v (I.base.frzs b o v q),fun b ps q=>?_⟩
 ·obtain ⟨sl,e⟩:=I.base.slot b o q n hb (nx b)
  have fr:=I.base.free b o q n (nx b)
  by_cases hs:b∈frs X.stack
  ·obtain ⟨sl2,e2⟩:=u.slot b _ e fr hs (by simp)
   exact ⟨sl2,e2⟩
  ·exact ⟨sl,u.keep b _ e fr hs (by simp)⟩
 ·obtain ⟨o1,e⟩:=I.base.there b o q (nx b)
  exact u.free b o1 e (I.base.free b o q n (nx b)) (by simp)
 ·obtain ⟨o1,e⟩:=I.base.there b o q (nx b)
  exact u.there b o1 e (by simp)
 ·obtain ⟨m1,e1⟩:=I.base.tbls b ps q
  obtain ⟨m2,e2⟩:=u.tbls b _ e1
  exact ⟨m1++m2,by rw [e2,Array.append_assoc]⟩
def bOf (X:Cx) (e:Addr) (h:Heap):Heap:=PySem.W.hideAll h (e :: frs X.stack)
theorem Inv.flyB (I:Inv X pins σ H s) {e C:Addr} {dct:Option Addr} (he:H e=some (excO e C dct true)) :
    XAt (bOf X e s.heap) e (.ref C) dct none s.heap/\s.heap.FunFrames (bOf X e s.heap) X.stack/\(∀ b o,s.heap.get? b=some o->b≠e->b ∉ frs X.stack->(bOf X e s.heap).get? b=some o):=by
  obtain ⟨oe,vs,e1,e2,e3,e4,e5,e6⟩:=I.hok.exc he
  refine ⟨⟨fun b o q=>PySem.W.of_hideAll _ q,PySem.W.hideAll_none _ (.head _),oe,vs,e1,e2,e3,e4,e5,e6 rfl⟩,PySem.W.funFrames_hide I.stack fun env hm a ha=>.tail _ (List.mem_filterMap.mpr ⟨env,hm,ha⟩),fun b o q n1 n2=>PySem.W.hideAll_get _ q fun z=>?_⟩
  rcases List.mem_cons.mp z with y | y
  · exact n1 y
  · exact n2 y
theorem Inv.flyUn (I:Inv X pins σ H s) {e C:Addr} {dct:Option Addr} {fl:Option Value} (he:H e=some (excO e C dct true)) (x:XAt (bOf X e s.heap) e (.ref C) dct fl h') (u:UpS s.heap h') :
    Un (frs X.stack) [] H (upd H e (excO e C dct false)) s.heap h'/\HOk X.prog X.w (upd H e (excO e C dct false)) h'/\∀ a o,upd H e (excO e C dct false) a=some o->a≠e->∃ ob,(bOf X e s.heap).get? a=some ob:=by
  obtain ⟨x0,ff,big⟩:=I.flyB he
  have cov:∀ a o,upd H e (excO e C dct false) a=some o->a≠e->∃ ob,(bOf X e s.heap).get? a=some ob:=fun a o q n=>by
    rw [zah n] at q
    obtain ⟨ob,g⟩:=(I.hok a o q).there
    exact ⟨ob,big a ob g n fun z=>by rw [I.stkFree a z] at q; cases q⟩
  have ne:∀ b,H b=none->b≠e:=fun b n z=>by rw [z,he] at n; cases n
  refine ⟨⟨fun b o q n hb _=>x.stay b o (big b o q (ne b n) hb),fun b o q n hb _=>?_,fun b o q n _=>by rw [zah (ne b n)]; exact n,fun b o q _=>u.th b o q,fun b xs q=>?_,fun b o v q=>?_,fun b ps q=>⟨#[],?_⟩⟩,?_,cov⟩
  · obtain ⟨_,o1,g,nf⟩:=ff.mem (show b∈X.stack.filterMap (·.frame) from hb)
    rw [q] at g
    cases g
    exact u.sl b o q nf
  · rw [zah fun z=>by rw [z,he] at q; cases q]; exact q
  · rw [zah fun z=>by rw [z,he] at q; cases q]; exact q
  · rw [zah fun z=>by rw [z,he] at q; cases q]; simpa using q
  · have h0:HOk X.prog X.w (upd H e (excO e C dct false)) s.heap:=fun a o q=>by
      by_cases z:a=e
      · subst z
        rw [zab] at q
        cases q
        obtain ⟨oe,vs,e1,e2,e3,e4,e5,_⟩:=I.hok.exc he
        exact znv ⟨oe,vs,e1,e2,e3,e4,e5,fun z=>by cases z⟩
      · rw [zah z] at q
        refine (I.hok a o q).stay (fun _ _ _ g=>g) (fun b g=>?_) fun b xs g=>?_
        · rw [zah fun z=>by rw [z,he] at g; cases g]; exact g
        · rw [zah fun z=>by rw [z,he] at g; cases g]; exact g
    exact zpd h0 zab cov x0.stay x
end
end L2
namespace L2
open PySem PySem.Spec PyProof.Rows
abbrev XH:=Value->Option Addr->St->Hp->Prop
def zex (CX:CXT) (X:Cx) (Ek:XH):Prop:=∀ (pins:List (Addr×Obj)) (σ:St) (H:Hp) (s:Shared) (e:Value) (s':Shared),Inv X pins σ H s->CX X.stack H s (fun v d H'=>Ek v d σ H') e s'->X.xe e s'
def zry (X:Cx) (Ek:XH):Prop:=∀ (pins:List (Addr×Obj)) (σ:St) (H:Hp) (s:Shared) (e C:Addr) (dct:Option Addr),Inv X pins σ H s->H e=some (excO e C dct true)->Ek (.ref e) dct σ (upd H e (excO e C dct false))->X.xe (.ref e) s
abbrev EX0:XH:=fun _ _ _ _=>False
theorem passN {P:Program} {w:World} {X:Cx}:zex (CXX P w) X EX0:=fun _ _ _ _ _ _ _ ⟨_,_,_,_,_,_,_,_,_,_,_,h⟩=>h.elim
section
variable {X:Cx} {pins:List (Addr×Obj)} {σ:St} {H H':Hp} {s s':Shared} {B h':Heap} {e C:Addr} {dct:Option Addr} {fl:Option Value}
theorem zut (F:Fly X.prog X.w B X.stack e C dct H' s'.heap) (un:Un (frs X.stack) [] H H' s.heap s'.heap) (cv:∀ b o,s.heap.get? b=some o->H b=none->b ∉ frs X.stack->B.get? b=some o)
    (x:XAt B e (.ref C) dct fl h') (u:UpS s'.heap h'):Un (frs X.stack) [] H H' s.heap h'/\HOk X.prog X.w H' h':=by
  obtain ⟨fl0,_,x0⟩:=F.at_
  refine ⟨⟨fun b o q n hb _=>x.stay b o (cv b o q n hb),fun b o q n hb _=>?_,un.free,fun b o q hx=>?_,un.tups,un.frzs,un.tbls⟩,zpd F.hok F.he F.cov x0.stay x⟩
  · obtain ⟨sl,e1⟩:=un.slot b o q n hb (by simp)
    obtain ⟨_,o1,g,nf⟩:=F.ff.mem (show b∈X.stack.filterMap (·.frame) from hb)
    rw [e1] at g
    cases g
    obtain ⟨sl2,e2⟩:=u.sl b _ e1 nf
    exact ⟨sl2,e2⟩
  · obtain ⟨o1,e1⟩:=un.there b o q hx
    exact u.th b o1 e1
theorem zrz (I:Inv X pins σ H s) (F:Fly X.prog X.w B X.stack e C dct H' s'.heap) (hos:s'.os=s.os) (hb:AllBare s'.gens) (un:Un (frs X.stack) [] H H' s.heap s'.heap)
    (cv:∀ b o,s.heap.get? b=some o->H b=none->b ∉ frs X.stack->B.get? b=some o) (x:XAt B e (.ref C) dct fl h') (u:UpS s'.heap h'):Inv X pins σ H' { s' with heap:=h' }:=by
  obtain ⟨u2,ok⟩:=zut F un cv x u
  exact I.call' (s':={ s' with heap:=h' }) (ch:=[]) hos u2 ok hb (fun b z=>absurd z (by simp))
end
section
variable {P:Program} {w:World} {K:PySem.W.Frag} {mg:Str->Option Value} {base:Heap} {N:List Str} {qual:Str} {sc:Scope} {f:Addr} {cd:Value} {A:Around} {outer:List Env} {s₀:Shared} {H₀:Hp} {E:XK}
theorem zeq:zry (cxOf (CXX P w) P w K mg base N qual sc f cd A outer s₀ H₀ E) (fun v d _ H=>E v d H):=by
 intro pins σ H s e C dct I he hE
 obtain ⟨x,ff,big⟩:=I.flyB he
 refine zpc (outer:=outer) (L:=s₀.heap.objs.size) I.ok.frames ff rfl x (.inl rfl) fun h' x' u=>?_
 obtain ⟨un,ok,cov⟩:=I.flyUn he x' u
 refine ⟨_,e,C,dct,_,rfl,I.os,I.bare,⟨⟨_,.inr rfl,x'⟩,(u.funs ff).2.2,ok,zab,cov⟩,I.out rfl un,fun b o q n hb=>?_,hE⟩
 have fr:=I.base.free b o q n (by show b ∉ ([]:List Addr); simp)
 refine big b o (I.base.keep b o q n hb (by show b ∉ ([]:List Addr); simp)) (fun z=>by rw [z,he] at fr; cases fr) fun z=>?_
 rcases List.mem_cons.mp (I.stkSub b z) with y | y
 ·exact absurd (Nat.lt_of_lt_of_le (Heap.lt_size q) (by rw [y]; exact I.ok.above)) (Nat.lt_irrefl _)
 ·exact hb y
theorem passF:zex (CXX P w) (cxOf (CXX P w) P w K mg base N qual sc f cd A outer s₀ H₀ E) (fun v d _ H=>E v d H):=by
 intro pins σ H s e s' I q
 obtain ⟨B,ea,C,dct,H',rfl,hos,hb,F,un,cv,hE⟩:=q
 obtain ⟨fl0,hfl,x0⟩:=F.at_
 refine zpc (outer:=outer) (L:=s₀.heap.objs.size) I.ok.frames F.ff rfl x0 hfl fun h' x' u=>?_
 obtain ⟨u2,ok⟩:=zut (X:=cxOf (CXX P w) P w K mg base N qual sc f cd A outer s₀ H₀ E) F un cv x' u
 refine ⟨B,ea,C,dct,H',rfl,hos.trans I.os,hb,⟨⟨_,.inr rfl,x'⟩,(u.funs F.ff).2.2,ok,F.he,F.cov⟩,I.out rfl u2,fun b o q n hb=>?_,hE⟩
 refine cv b o (I.base.keep b o q n hb (by show b ∉ ([]:List Addr); simp)) (I.base.free b o q n (by show b ∉ ([]:List Addr); simp)) fun z=>?_
 rcases List.mem_cons.mp (I.stkSub b z) with y | y
 ·exact absurd (Nat.lt_of_lt_of_le (Heap.lt_size q) (by rw [y]; exact I.ok.above)) (Nat.lt_irrefl _)
 ·exact hb y
end
def tryCx (P:Program) (w:World) (X:Cx) (pins:List (Addr×Obj)) (Hk:XH):Cx :=
 { X with pn:=X.pn++pins,xe:=fun e s'=>∃ σ H s,Inv X pins σ H s/\CXX P w X.stack H s (fun v d H'=>Hk v d σ H') e s' }
section
variable {P:Program} {w:World} {X:Cx} {pins pins':List (Addr×Obj)} {Hk:XH} {σ:St} {H:Hp} {s:Shared}
theorem unTry (I:Inv (tryCx P w X pins Hk) pins' σ H s):Inv X pins σ H s:=by
 have o:=I.ok
 exact ⟨⟨o.mod,o.kind,o.glob,o.blt,o.above,o.inj,o.has,o.cab,o.hd,o.frames,o.stk,o.exf,o.bs,o.bsz,o.noex,o.exfs,o.funs,o.frf⟩,I.os,I.bare,I.base,I.loc,I.cell,I.free,I.freeC,fun p hp=>I.pin p (List.mem_append_left _ hp),I.hok,I.len⟩
theorem inTry (I:Inv X pins σ H s):Inv (tryCx P w X pins Hk) [] σ H s:=by
 have o:=I.ok
 exact ⟨⟨o.mod,o.kind,o.glob,o.blt,o.above,o.inj,o.has,o.cab,o.hd,o.frames,o.stk,o.exf,o.bs,o.bsz,o.noex,o.exfs,o.funs,o.frf⟩,I.os,I.bare,I.base,I.loc,I.cell,I.free,I.freeC,fun p hp=>I.pin p (by simpa [tryCx] using hp),I.hok,I.len⟩
theorem passT:zex (CXX P w) (tryCx P w X pins Hk) Hk:=fun _ σ H s _ _ I q=>⟨σ,H,s,unTry I,q⟩
end
def sufCx (X:Cx) (e:Addr):Cx:={ X with A:=X.A.mark (some (.ref e)),calm:=false,xe:=fun _ _=>False }
section
variable {X:Cx} {pins:List (Addr×Obj)} {σ:St} {H:Hp} {s:Shared} {e:Addr}
theorem inSuf (I:Inv X pins σ H s):Inv (sufCx X e) pins σ H s:=by
 have o:=I.ok
 exact ⟨⟨o.mod,o.kind,o.glob,o.blt,o.above,o.inj,o.has,o.cab,(fun z=>by cases z),o.frames,o.stk,o.exf,o.bs,o.bsz,o.noex,o.exfs,o.funs,o.frf⟩,I.os,I.bare,I.base,I.loc,I.cell,I.free,I.freeC,I.pin,I.hok,I.len⟩
theorem unSuf (o:X.Ok) (I:Inv (sufCx X e) pins σ H s):Inv X pins σ H s :=
 ⟨o,I.os,I.bare,I.base,I.loc,I.cell,I.free,I.freeC,I.pin,I.hok,I.len⟩
end
def tCallX (sp:Sp) (Ek:XH) (t:TA):TE:=fun σ H Q=>t σ H fun vs H1=>sp vs H1 Q (fun v d H'=>Ek v d σ H')
section
variable {X:Cx} {CX:CXT} {k:Nat} {x:Str} {ps:List Str} {sp:Sp} {Ek:XH} {p pos:Pos} {e:Expr} {es:List Expr} {t:TA}
theorem zbb (D:Def X.prog X.w X.K X.mg X.base CX k x ps sp) (hr:Room k X.A) (hg:Gl X x) (hx:zex CX X Ek) (ha:PA X (e :: es) t)
    (hdb:(x == ("__debug__" : Str))=false:=by decide) (he:starEach (e :: es) X.env=(false,eval e X.env) :: starEach es X.env:=by rfl) (hpl:(backTo pos (starEach es X.env)).any (·.1)=false:=by rfl) :
    PE X (.Call (.Name x p) (e :: es) [] pos) (tCallX sp Ek t):=by
  obtain ⟨f,fd,F,hb,hk,hm⟩:=D.ex
  intro pins s σ H Q I h
  refine wpAny_Call_Name_kw (zgq I hg hm ?_ hdb)
  refine PySem.W.callWith_K (h₀:=X.base) I.ok.mod.kin hk (thn (ha pos pins s σ H _ I h) fun us s1 ⟨vs,H1,I1,r,q⟩=>⟨I1.kIn,?_⟩) he hpl
  have hl:(us++[]).length=ps.length:=by rw [List.append_nil,<- r.length]; exact F.len _ _ _ _ q
  have hbb:=hb s1 us I1.kIn hl
  rw [List.append_nil] at hbb
  refine wpAny_call (codeAny_mono (F.run X.A X.stack s1 H1 ⟨us,[]⟩ us vs Q _ hr I1.env0 hbb r q) fun r s' hq=>?_)
  cases r with
  | error e=>exact hx pins σ H1 s1 e s' I1 hq
  | ok fl =>
    cases fl with
    | ret u=>exact I1.after hq
    | next=>exact False.elim hq
    | brk=>exact False.elim hq
    | cont=>exact False.elim hq
end
theorem Src.okN {P:Program} {w:World} {K:PySem.W.Frag} {mg:Str->Option Value} {base:Heap} {CX:CXT} {x:Str} {st:Stmt} {N ps:List Str} {k:Nat} {sp:Sp} (F:Src K mg x st ps) (S:FnScope N ps (zac st)) (len:∀ vs H Q E,sp vs H Q E->vs.length=ps.length)
    (hbody:∀ (f:Addr) (cdv:Value) (A:Around) (outer:List Env) (s:Shared) (H:Hp) (vs:List V) (Q:VK) (E:XK),Room k (A.deeper (envOfC x (zac st) s.heap.objs.size f cdv))->sp vs H Q E ->
      ∃ t,PSs (cxOf CX P w K mg base N x (zac st) f cdv A outer s H E).nox (zal st) t/\t { nx:=fun _ H'=>Q .non H',rt:=Q } (start N vs) H):Def P w K mg base CX (k+1) x ps sp:=by
  obtain ⟨f,fd,F,b,m⟩:=F.ex
  obtain ⟨oc,od,kV,doc,pm,an,cdv,ct,osl,rfl,lk,hcd⟩:=F.ex
  exact ⟨f,_,fn_of lk hcd S len fun A outer s H vs Q E hr hsp=>by
    obtain ⟨t,h,q⟩:=hbody f cdv A outer s H vs Q E hr hsp
    exact ⟨t,h.nox,q⟩,b,F.kp,m⟩
theorem Src.okX {P:Program} {w:World} {K:PySem.W.Frag} {mg:Str->Option Value} {base:Heap} {x:Str} {st:Stmt} {N ps:List Str} {k:Nat} {sp:Sp} (F:Src K mg x st ps) (S:FnScope N ps (zac st)) (len:∀ vs H Q E,sp vs H Q E->vs.length=ps.length)
    (hbody:∀ (f:Addr) (cdv:Value) (A:Around) (outer:List Env) (s:Shared) (H:Hp) (vs:List V) (Q:VK) (E:XK),Room k (A.deeper (envOfC x (zac st) s.heap.objs.size f cdv))->sp vs H Q E ->
      ∃ t,PSs (cxOf (CXX P w) P w K mg base N x (zac st) f cdv A outer s H E) (zal st) t/\t { nx:=fun _ H'=>Q .non H',rt:=Q } (start N vs) H):Def P w K mg base (CXX P w) (k+1) x ps sp:=by
  obtain ⟨f,fd,F,b,m⟩:=F.ex
  obtain ⟨oc,od,kV,doc,pm,an,cdv,ct,osl,rfl,lk,hcd⟩:=F.ex
  exact ⟨f,_,fn_of lk hcd S len fun A outer s H vs Q E hr hsp=>hbody f cdv A outer s H vs Q E hr hsp,b,F.kp,m⟩
theorem zsa {P:Program} {w:World} {H:Hp} {h:Heap} {a:Addr} (x:HOk P w H h) (e:h.get? a=none):H a=none:=by
 cases q:H a with
 | none=>rfl
 | some o =>
  obtain ⟨ob,g⟩:=(x a o q).there
  rw [e] at g
  cases g
theorem Inv.laidN {X:Cx} {pins:List (Addr×Obj)} {σ:St} {H:Hp} {s:Shared} {h':Heap} {a:Addr} {o:HO} {t':Nat} (I:Inv X pins σ H s) (k:∀ b u,s.heap.get? b=some u->h'.get? b=some u) (hn:s.heap.get? a=none) (new:ObjOk X.prog X.w (upd H a o) h' a o) :
    Inv X pins σ (upd H a o) { s with heap:=h',toks:=t' }:=by
  have fr:=zsa I.hok hn
  refine I.un (t':=t') ⟨fun b ob q _ _ _=>k b ob q,fun b ob q _ _ _=>⟨ob.slots,k b ob q⟩,fun b ob q n _=>?_,fun b ob q _=>⟨ob,k b ob q⟩,fun b xs q=>?_,fun b ob v q=>?_,fun b ps q=>⟨#[],?_⟩⟩ fun b ob q=>?_
  · rw [zah fun z=>by rw [z,hn] at q; cases q]; exact n
  · rw [zah (zao q fr)]; exact q
  · rw [zah (zao q fr)]; exact q
  · rw [zah (zao q fr)]; simpa using q
  · by_cases z:b=a
    · subst z
      rw [zab] at q
      cases q
      exact new
    · rw [zah z] at q
      exact (I.hok b ob q).stay (fun c u _ g=>k c u g) (fun c g=>by rw [zah (zao g fr)]; exact g) fun c xs g=>by rw [zah (zao g fr)]; exact g
def tXmk (C:Addr) (t:TA):TE:=fun σ H Q=>t σ H fun vs H1=>vs.length<=1000/\∀ e,H1 e=none->Q (.ref e) (upd H1 e (excO e C none true))
def tRaise (K:PySem.W.Frag) (Ek:XH) (te:TE):TS:=fun _ σ H=>te σ H fun v H1=>∃ e C dct,v = .ref e/\H1 e=some (excO e C dct true)/\XC K C/\Ek (.ref e) dct σ (upd H1 e (excO e C dct false))
section
variable {X:Cx} {C:Addr} {x:Str} {p pos:Pos} {e:Expr} {es:List Expr} {t:TA}
theorem zer (q:PySem.W.excIn X.K C bmV "ValueError.__new__" = true) (kp:PySem.W.keepIn X.K (.ref C)=true) (hg:Gl X x) (hm:X.mg x=some (.ref C)) (ha:PA X (e :: es) t)
    (hdb:(x == ("__debug__" : Str))=false:=by decide) (he:starEach (e :: es) X.env=(false,eval e X.env) :: starEach es X.env:=by rfl) (hpl:(backTo pos (starEach es X.env)).any (·.1)=false:=by rfl) :
    PE X (.Call (.Name x p) (e :: es) [] pos) (tXmk C t):=by
  intro pins s σ H Q I h
  refine wpAny_Call_Name_kw (zgq I hg hm ?_ hdb)
  refine PySem.W.callWith_K (h₀:=X.base) I.ok.mod.kin kp (thn (ha pos pins s σ H _ I h) fun us s1 ⟨vs,H1,I1,r,hl,q1⟩=>⟨I1.kIn,?_⟩) he hpl
  refine zxt I1.kIn q (by rw [List.nil_append,<- r.length]; exact line_lit hl) fun h' ea m=>?_
  obtain ⟨tt,g1,g2,g3⟩:=m.there
  exact ⟨.ref ea,_,I1.laidN (t':=s1.toks) m.keeps m.new (znv ⟨_,_,g1,rfl,rfl,rfl,Nat.lt_of_lt_of_le (by decide) (Nat.le_refl 6),fun _=>rfl⟩),rfl,q1 ea (zsa I1.hok m.new)⟩
theorem zcn {Ek:XH} {te:TE} (K:PySem.W.Frag) (hK:X.K=K) (hc:X.calm=true) (hx:zry X Ek) (he:PE X e te):PS X (.Raise (some e) none pos) (tRaise K Ek te):=by
 subst hK
 intro pins s σ H D I h
 rw [arm_exec_Raise]
 refine wpAny_bind (wpAny_standAt ?_)
 show wpAny _ _ (raiseStmt X.env (some (do let v <- eval e X.env; standAt pos; pure v)) none) _ _ _
 refine zxu (K:=X.K) (I.ok.hd hc) (wpAny_bind (thn (he pins s σ H _ I h) fun u s1 ⟨v,H1,I1,r,ea,C,dct,hv,hh,c,q⟩=>wpAny_bind (wpAny_standAt (wpAny_pure ?_))))
 subst hv
 cases (show u=Value.ref ea from r)
 obtain ⟨oe,vs,e1,e2,e3,e4,e5,e6⟩:=I1.hok.exc hh
 exact ⟨C,ea,oe,vs,c,rfl,I1.kIn,e1,e2,e4,e6 rfl,hx pins σ H1 s1 ea C dct I1 hh q⟩
end
section
variable {prog:Program} {w:World} {A:Around} {E:Value->Shared->Prop} {s:Shared} {K:PySem.W.Frag} {e C C':Addr}
theorem zuu {oe:Obj} {b:Bool} {Q:Bool->Shared->Prop} (X:K.In s.heap) (c:XC K C') (he:s.heap.get? e=some oe) (hc:oe.cls = .ref C) (hs:PySem.W.subIn K (.ref C) (.ref C')=some b) (h:Q b s):wpAny (model prog w) A (excMatches (.ref e) (.ref C')) Q E s:=by
 obtain ⟨nm,qn,N,bs,bm,hdct,sn,sub,ab,col,dd,k0,k1,k2,k3,k5,lk,tl⟩:=c.ex
 obtain ⟨hp,g,d,t,os⟩:=s
 have cl:=X _ _ lk
 have hcB:(Value.ref C' :: bm).contains (.type "BaseException")=true:=by rw [List.contains_cons,(PySem.W.tail_of_in X tl).hasType (show bmV.contains (.type "BaseException")=true from rfl),Bool.or_true]
 have LS:=PySem.W.looks_subIn (M:=model prog w) X hs
 have f:=tc_notTuple
 unfold excMatches
 repeat (first | (with_reducible refine wpAny_loadPart_at he ?_; rw [hc]) | with_reducible refine wpAny_loadPart_at cl ?_ | (with_reducible refine wpAny_isSubtype_exc cl ?_; rw [hcB]) | (with_reducible refine LS.at ?_) | wp_step)
 cases b with
 | true=>wp_walk; exact h
 | false=>wp_walk; exact h
end
def hkOf (K:PySem.W.Frag) (C':Addr) (th:Addr->TS) (D:Ends):XH:=fun v d σ H=>∃ e C,v = .ref e/\H e=some (excO e C d false)/\PySem.W.subIn K (.ref C) (.ref C')=some true/\th e D σ H
def tTry (K:PySem.W.Frag) (C':Addr) (tb:XH->TS) (th:TS):TS:=fun D σ H=>tb (hkOf K C' (fun _=>th) D) D σ H
def tTryAs (K:PySem.W.Frag) (C':Addr) (i:Nat) (tb:XH->TS) (th:TS):TS:=fun D σ H =>
 tb (hkOf K C' (fun e D σ H=>th { nx:=fun σ H=>D.nx (σ.set i none) H,rt:=D.rt,bk:=fun σ H=>D.bk (σ.set i none) H,ct:=fun σ H=>D.ct (σ.set i none) H } (σ.set i (some (.ref e))) H) D) D σ H
section
variable {P:Program} {w:World} {X:Cx} {C':Addr} {x:Str} {np hpos pos:Pos} {body suite:List Stmt} {b0:Stmt} {tb:XH->TS} {th:TS}
theorem SP.unTry {pins:List (Addr×Obj)} {Hk:XH} {D:Ends} {f:Flow} {s':Shared} (h:SP (tryCx P w X pins Hk) [] D f s'):SP X pins D f s':=by
 cases f with
 | next=>obtain ⟨σ,H,I,q⟩:=h; exact ⟨σ,H,L2.unTry I,q⟩
 | brk=>obtain ⟨σ,H,I,q⟩:=h; exact ⟨σ,H,L2.unTry I,q⟩
 | cont=>obtain ⟨σ,H,I,q⟩:=h; exact ⟨σ,H,L2.unTry I,q⟩
 | ret u=>obtain ⟨v,σ,H,I,r,q⟩:=h; exact ⟨v,σ,H,L2.unTry I,r,q⟩
theorem SP.unSuf {pins:List (Addr×Obj)} {e:Addr} {D:Ends} {f:Flow} {s':Shared} (o:X.Ok) (h:SP (sufCx X e) pins D f s'):SP X pins D f s':=by
 cases f with
 | next=>obtain ⟨σ,H,I,q⟩:=h; exact ⟨σ,H,L2.unSuf o I,q⟩
 | brk=>obtain ⟨σ,H,I,q⟩:=h; exact ⟨σ,H,L2.unSuf o I,q⟩
 | cont=>obtain ⟨σ,H,I,q⟩:=h; exact ⟨σ,H,L2.unSuf o I,q⟩
 | ret u=>obtain ⟨v,σ,H,I,r,q⟩:=h; exact ⟨v,σ,H,L2.unSuf o I,r,q⟩
end
end L2
namespace L2
open PySem PySem.Spec PyProof.Rows
section
variable {X:Cx}
end
end L2
namespace L2
open PySem PySem.Spec PyProof.Rows
section
variable {K:PySem.W.Frag} {C C':Addr}
theorem zfx (q:PySem.W.excIn K C bmV "ValueError.__new__" = true):∃ nm q N bs bm hdct sn sub ab col dd k0 k1 k2 k3 k5,K.lookup C=some (excClassObj nm q C N bs bm hdct sn sub ab col dd k0 k1 k2 k3 k5 "ValueError.__new__")/\PySem.W.tailIn K bmV bm=true:=by
 obtain ⟨nm,q,N,bs,bm,hdct,sn,sub,ab,col,dd,k0,k1,k2,k3,k5,l,t,_⟩:=XC.plain q
 exact ⟨nm,q,N,bs,bm,hdct,sn,sub,ab,col,dd,k0,k1,k2,k3,k5,l,t⟩
theorem zfy:PySem.W.kitOne K (.ref C) (.ref C)=some true:=by
 unfold PySem.W.kitOne
 rw [if_pos (by simp)]
theorem zbz {cd:ClassData} {b:Bool} (n:(Value.ref C == Value.ref C')=false) (hc:PySem.W.clsIn K C'=some cd) (ht:PySem.W.typeIn K (.ref C')=some (.type "type")) (hs:PySem.W.subIn K (.ref C) (.ref C')=some b):PySem.W.kitOne K (.ref C) (.ref C')=some b:=by
 unfold PySem.W.kitOne
 rw [if_neg (by rw [n]; decide)]
 unfold PySem.W.kitCls
 dsimp only
 rw [if_pos (by rw [hc,ht]; rfl)]
 exact hs
theorem zkm {b:Bool} (hs:PySem.W.subIn K (.ref C) (.type "ValueError")=some b):PySem.W.kitOne K (.ref C) (.type "ValueError")=some b:=by
 unfold PySem.W.kitOne
 rw [if_neg (by simp)]
 unfold PySem.W.kitCls
 dsimp only
 rw [if_pos (by decide +kernel)]
 exact hs
end
end L2
namespace L2
open PySem PySem.Spec PyProof.Rows
end L2
namespace L2
open PySem PySem.Spec PyProof.Rows
section
variable {α:Type} {enc:α->List V} {H H':Hp} {ps:List Addr} {qs:List α}
end
abbrev F2:=Int×Int
def f2 (q:F2):List V:=[.int q.1,.int q.2]
end L2
namespace Sw
open L2
def nrm (q:F2):F2:=(rN q.1 q.2,rD q.1 q.2)
theorem nrm_fr {q:F2} (h:q.2≠0):Fr (nrm q).1 (nrm q).2:=zxq h
theorem nrm_cross {q:F2} (h:q.2≠0):(nrm q).1*q.2=(nrm q).2*q.1:=zrq h
end Sw
namespace L2
open PySem PySem.Spec PyProof.Rows
theorem zix {H:Hp} {l:Addr} {xs:List V} {y:V} {Q:VK} (h:H l=some (.lst xs)) (hz:xs.length<1000) (q:Q .non (upd H l (.lst (xs++[y])))):zri (.ref l) [y] H Q:=⟨l,xs,y,rfl,rfl,h,line_lt hz,q⟩
theorem zgl {K:PySem.W.Frag} {H:Hp} {l:Addr} {xs:List V} (h:H l=some (.lst xs)):tyV K "list" (.ref l) H:=.inl ⟨rfl,_,.of h⟩
end L2
namespace L2
open PySem PySem.Spec PyProof.Rows
def tCallN (sp:Sp) (t:TA):TE:=fun σ H Q=>t σ H fun vs H1=>sp vs H1 Q E0
section
variable {P:Program} {w:World} {X:Cx} {k:Nat} {x:Str} {ps:List Str} {sp:Sp} {p pos:Pos} {e:Expr} {es:List Expr} {t:TA}
end
end L2
namespace L2
open PySem PySem.Spec PyProof.Rows
end L2
namespace L2
open PySem PySem.Spec PyProof.Rows
end L2
namespace L2
open PySem PySem.Spec PyProof.Rows
section
variable {X:Cx} {o value:Expr} {f:Str} {pos pos':Pos} {ta tv:TE}
end
def tXmk1 (C:Addr) (sp:Sp) (t:TA):TE:=fun σ H Q=>t σ H fun vs H1=>vs.length<=1000/\∀ e,H1 e=none->sp (.ref e :: vs) (upd H1 e (excO e C none true)) (fun v H2=>v = .non/\Q (.ref e) H2) E0
end L2
namespace L2
open PySem PySem.Spec PyProof.Rows
end L2
namespace L2
open PySem PySem.Spec PyProof.Rows
section
variable {X:Cx}
end
theorem ixInt (xs:List Int) {i:Int} (h0:0<=i) (h1:i<xs.length):∃ z,atI (xs.map V.int) i=some (.int z):=by
 refine ⟨xs[i.toNat]'(by omega),?_⟩
 have:=zht (xs:=xs.map V.int) (j:=i.toNat) (v:=V.int (xs[i.toNat]'(by omega))) (by simp)
 rwa [Int.toNat_of_nonneg h0] at this
theorem pickI {K:PySem.W.Frag} {H:Hp} {t:Addr} {i:Int} {Q:VK} (xs:List Int) (h0:0<=i) (h1:i<xs.length) (k:∀ z:Int,Q (.int z) (upd H t (.lst (xs.map V.int)))):rIxL K (.ref t) (.int i) (upd H t (.lst (xs.map V.int))) Q:=by
 obtain ⟨z,hz⟩:=ixInt xs h0 h1
 exact zmg (.of zab) hz (k z)
end L2
namespace Sw
open L2
def Fine (i:Nat) (b:Int) (q:Q4):Prop:=i<60/\0<=q.1/\q.1<=1000000000000/\0<=q.2.1/\q.2.1<=11/\1<=q.2.2.1/\q.2.2.1<=1000000/\1<=q.2.2.2/\q.2.2.2<=1000000/\b<=q.1
instance (i:Nat) (b:Int) (q:Q4):Decidable (Fine i b q):=by unfold Fine; infer_instance
end Sw
namespace L2
open PySem PySem.Spec PyProof.Rows
def BindsV (K:PySem.W.Frag) (fd:FuncData) (ps:List Str) (dvs:List V):Prop:=∃ ds,Vals dvs ds/\Binds K fd ps ds
theorem BindsV.nil {K:PySem.W.Frag} {fd:FuncData} {ps:List Str} (h:Binds K fd ps []):BindsV K fd ps []:=⟨[],.nil,h⟩
structure FunE (K:PySem.W.Frag) (x qual:Str) (st:Stmt) (f:Addr) (fd:FuncData):Prop where
 ex:∃ (oc:Value) (od:Option Addr) (dV kV doc pm:Value) (an:Option Addr) (cdv ct:Value) (osl:Array (Option Value)),
  fd=PySem.W.fnOf x qual (zam st) (zal st) (zac st) dV kV doc pm an cdv ct/\K.lookup f=some ⟨oc,od,.func fd,osl⟩/\PySem.W.codeIn K cdv qual=true
theorem zaz {K:PySem.W.Frag} {x qual:Str} {st:Stmt} {f:Addr} {oc:Value} {od an:Option Addr} {osl:Array (Option Value)} {dV kV doc pm cdv ct:Value} (l:K.lookup f=some ⟨oc,od,.func (PySem.W.fnOf x qual (zam st) (zal st) (zac st) dV kV doc pm an cdv ct),osl⟩)
    (c:PySem.W.codeIn K cdv qual=true):FunE K x qual st f (PySem.W.fnOf x qual (zam st) (zal st) (zac st) dV kV doc pm an cdv ct):=⟨⟨oc,od,dV,kV,doc,pm,an,cdv,ct,osl,rfl,l,c⟩⟩
theorem zeu {K:PySem.W.Frag} {fd:FuncData} {ps:List Str} {ds:List Value} {T:Addr} {oc:Value} {od:Option Addr} {n:Nat} {osl:Array (Option Value)} {items:Array Value} (hd:fd.defaults = .ref T) (lk:K.lookup T=some ⟨oc,od,.seq items n,osl⟩)
    (h:∀ us:List Value,(us++ds).length=ps.length->∃ k:Option (Array Value)->Sem (List (Str×Value)),bindArgs fd ⟨us,[]⟩ = seqItems? fd.defaults >>= k/\k (some items)=pure (ps.zip (us++ds))):Binds K fd ps ds:=fun s us kx hl=>by
  obtain ⟨k,h1,h2⟩:=h us hl
  exact BindsTo.of_defaults hd (kx _ _ lk) rfl h1 h2
structure MethD (P:Program) (w:World) (K:PySem.W.Frag) (mg:Str->Option Value) (base:Heap) (CX:CXT) (k:Nat) (C:Addr) (m:Str) (ps:List Str) (dss:List (List V)) (sp:Sp):Prop where
 ex:∃ (f:Addr) (fd:FuncData),FnOk P w K mg base CX k f fd ps sp/\Meth K C m f/\∀ dvs∈dss,BindsV K fd ps dvs
structure MkD (P:Program) (w:World) (K:PySem.W.Frag) (mg:Str->Option Value) (base:Heap) (CX:CXT) (k:Nat) (C:Addr) (ps:List Str) (dss:List (List V)) (sp:Sp):Prop where
 ex:∃ (f:Addr) (fd:FuncData),FnOk P w K mg base CX k f fd ps sp/\Mk K C f/\∀ dvs∈dss,BindsV K fd ps dvs
structure SrcM (K:PySem.W.Frag) (C:Addr) (m qual:Str) (st:Stmt) (ps:List Str) (dss:List (List V)):Prop where
 ex:∃ (f:Addr) (fd:FuncData),FunE K m qual st f fd/\Meth K C m f/\∀ dvs∈dss,BindsV K fd ps dvs
structure SrcK (K:PySem.W.Frag) (C:Addr) (qual:Str) (st:Stmt) (ps:List Str) (dss:List (List V)):Prop where
 ex:∃ (f:Addr) (fd:FuncData),FunE K "__init__" qual st f fd/\Mk K C f/\∀ dvs∈dss,BindsV K fd ps dvs
section
variable {P:Program} {w:World} {K:PySem.W.Frag} {mg:Str->Option Value} {base:Heap} {CX:CXT} {C:Addr} {m qual:Str} {st:Stmt} {N ps:List Str} {dss:List (List V)} {k:Nat} {sp:Sp}
theorem SrcM.okN (F:SrcM K C m qual st ps dss) (S:FnScope N ps (zac st)) (len:∀ vs H Q E,sp vs H Q E->vs.length=ps.length)
    (hbody:∀ (f:Addr) (cdv:Value) (A:Around) (outer:List Env) (s:Shared) (H:Hp) (vs:List V) (Q:VK) (E:XK),Room k (A.deeper (envOfC qual (zac st) s.heap.objs.size f cdv))->sp vs H Q E ->
      ∃ t,PSs (cxOf CX P w K mg base N qual (zac st) f cdv A outer s H E).nox (zal st) t/\t { nx:=fun _ H'=>Q .non H',rt:=Q } (start N vs) H):MethD P w K mg base CX (k+1) C m ps dss sp:=by
  obtain ⟨f,fd,F,me,b⟩:=F.ex
  obtain ⟨oc,od,dV,kV,doc,pm,an,cdv,ct,osl,rfl,lk,hcd⟩:=F.ex
  exact ⟨f,_,fn_of lk hcd S len fun A outer s H vs Q E hr hsp=>by
    obtain ⟨t,h,q⟩:=hbody f cdv A outer s H vs Q E hr hsp
    exact ⟨t,h.nox,q⟩,me,b⟩
theorem SrcM.okX (F:SrcM K C m qual st ps dss) (S:FnScope N ps (zac st)) (len:∀ vs H Q E,sp vs H Q E->vs.length=ps.length)
    (hbody:∀ (f:Addr) (cdv:Value) (A:Around) (outer:List Env) (s:Shared) (H:Hp) (vs:List V) (Q:VK) (E:XK),Room k (A.deeper (envOfC qual (zac st) s.heap.objs.size f cdv))->sp vs H Q E ->
      ∃ t,PSs (cxOf (CXX P w) P w K mg base N qual (zac st) f cdv A outer s H E) (zal st) t/\t { nx:=fun _ H'=>Q .non H',rt:=Q } (start N vs) H):MethD P w K mg base (CXX P w) (k+1) C m ps dss sp:=by
  obtain ⟨f,fd,F,me,b⟩:=F.ex
  obtain ⟨oc,od,dV,kV,doc,pm,an,cdv,ct,osl,rfl,lk,hcd⟩:=F.ex
  exact ⟨f,_,fn_of lk hcd S len fun A outer s H vs Q E hr hsp=>hbody f cdv A outer s H vs Q E hr hsp,me,b⟩
theorem SrcK.okN (F:SrcK K C qual st ps dss) (S:FnScope N ps (zac st)) (len:∀ vs H Q E,sp vs H Q E->vs.length=ps.length)
    (hbody:∀ (f:Addr) (cdv:Value) (A:Around) (outer:List Env) (s:Shared) (H:Hp) (vs:List V) (Q:VK) (E:XK),Room k (A.deeper (envOfC qual (zac st) s.heap.objs.size f cdv))->sp vs H Q E ->
      ∃ t,PSs (cxOf CX P w K mg base N qual (zac st) f cdv A outer s H E).nox (zal st) t/\t { nx:=fun _ H'=>Q .non H',rt:=Q } (start N vs) H):MkD P w K mg base CX (k+1) C ps dss sp:=by
  obtain ⟨f,fd,F,me,b⟩:=F.ex
  obtain ⟨oc,od,dV,kV,doc,pm,an,cdv,ct,osl,rfl,lk,hcd⟩:=F.ex
  exact ⟨f,_,fn_of lk hcd S len fun A outer s H vs Q E hr hsp=>by
    obtain ⟨t,h,q⟩:=hbody f cdv A outer s H vs Q E hr hsp
    exact ⟨t,h.nox,q⟩,me,b⟩
theorem SrcK.okX (F:SrcK K C qual st ps dss) (S:FnScope N ps (zac st)) (len:∀ vs H Q E,sp vs H Q E->vs.length=ps.length)
    (hbody:∀ (f:Addr) (cdv:Value) (A:Around) (outer:List Env) (s:Shared) (H:Hp) (vs:List V) (Q:VK) (E:XK),Room k (A.deeper (envOfC qual (zac st) s.heap.objs.size f cdv))->sp vs H Q E ->
      ∃ t,PSs (cxOf (CXX P w) P w K mg base N qual (zac st) f cdv A outer s H E) (zal st) t/\t { nx:=fun _ H'=>Q .non H',rt:=Q } (start N vs) H):MkD P w K mg base (CXX P w) (k+1) C ps dss sp:=by
  obtain ⟨f,fd,F,me,b⟩:=F.ex
  obtain ⟨oc,od,dV,kV,doc,pm,an,cdv,ct,osl,rfl,lk,hcd⟩:=F.ex
  exact ⟨f,_,fn_of lk hcd S len fun A outer s H vs Q E hr hsp=>hbody f cdv A outer s H vs Q E hr hsp,me,b⟩
end
def zpe (C:Addr) (m:Str) (sp:Sp) (dvs:List V) (Ek:XH) (ta:TE) (t:TA):TE:=fun σ H Q=>ta σ H fun x H1=>∃ a dx fs,x = .ref a/\H1 a=some (.ins C dx fs)/\fs.lookup m=none /\
 t σ H1 fun vs H2=>sp (x :: (vs++dvs)) H2 Q (fun v d H'=>Ek v d σ H')
def tMakeX (C:Addr) (sp:Sp) (dvs:List V) (Ek:XH) (t:TA):TE:=fun σ H Q=>t σ H fun vs H1=>∀ x dx,H1 x=none->H1 dx=none->dx≠x ->
 sp (.ref x :: (vs++dvs)) (upd (upd H1 dx (.own x)) x (.ins C dx [])) (fun v H2=>v = .non/\Q (.ref x) H2) (fun v d H'=>Ek v d σ H')
section
variable {X:Cx} {CX:CXT} {k:Nat} {f C:Addr} {fd:FuncData} {ps:List Str} {sp:Sp} {dvs:List V} {dss:List (List V)} {Ek:XH} {x m:Str} {p pos apos:Pos} {e o:Expr} {es:List Expr} {ta:TE} {t:TA}
theorem znw {pins:List (Addr×Obj)} {σ:St} {H:Hp} {s:Shared} {Q:VK} {us:List Value} {vs:List V} (F:FnOk X.prog X.w X.K X.mg X.base CX k f fd ps sp) (hr:Room k X.A) (hb:BindsV X.K fd ps dvs) (hx:zex CX X Ek)
    (I:Inv X pins σ H s) (r:Vals vs us) (h:sp (vs++dvs) H Q (fun v d H'=>Ek v d σ H')):wpAny (model X.prog X.w) X.A (call (.ref f) us) (EP X pins σ Q) X.xe s:=by
  obtain ⟨ds,hd,hb⟩:=hb
  have r2:Vals (vs++dvs) (us++ds):=r.append hd
  have hl:(us++ds).length=ps.length:=by rw [<- r2.length]; exact F.len _ _ _ _ h
  refine wpAny_call (codeAny_mono (F.run X.A X.stack s H ⟨us,[]⟩ (us++ds) (vs++dvs) Q _ hr I.env0 (hb s us I.kIn hl) r2 h) fun r s' hq=>?_)
  cases r with
  | error e=>exact hx pins σ H s e s' I hq
  | ok fl =>
    cases fl with
    | ret u=>exact I.after hq
    | next=>exact False.elim hq
    | brk=>exact False.elim hq
    | cont=>exact False.elim hq
theorem zaw {pl:Sem Bool} (D:MethD X.prog X.w X.K X.mg X.base CX k C m ps dss sp) (hin:dvs∈dss) (c:Cls X.K C) (hr:Room k X.A) (hx:zex CX X Ek) (he:PE X o ta) (ha:PA X (e :: es) t)
    (hst:starEach (e :: es) X.env=(false,eval e X.env) :: starEach es X.env:=by rfl) (hpl:(backTo pos (starEach es X.env)).any (·.1)=false:=by rfl)
    (ht:eval (.Call (.Attribute o m apos) (e :: es) [] pos) X.env=(do
      let ov <- eval o X.env
      standAt apos.atName
      let (f,first) <- holding [ov] (getMethod ov m pl)
      callWith pos f first (backTo pos (starEach (e :: es) X.env)) (backToKw pos (keywordEach [] X.env))):=by rfl) :
    PE X (.Call (.Attribute o m apos) (e :: es) [] pos) (zpe C m sp dvs Ek ta t):=by
  obtain ⟨f,fd,F,hm,hb⟩:=D.ex
  intro pins s σ H Q I h
  refine PySem.W.methodCall_KW (pl:=pl) (thn (he pins s σ H _ I h) fun u s1 ⟨x,H1,I1,rx,a,dx,fs,ex,ea,l,q⟩=>?_) ht
  subst ex
  obtain rfl:u=Value.ref a:=rx
  refine zkk I1 ea c hm l ?_
  refine PySem.W.callWith_K (first:=[.ref a]) (h₀:=X.base) I.ok.mod.kin hm.kp (thn (ha pos pins s1 σ H1 _ I1 q) fun us s2 ⟨vs,H2,I2,r,q2⟩=>⟨I2.kIn,?_⟩) hst hpl
  exact znw (us:=.ref a :: us) (vs:=.ref a :: vs) F hr (hb _ hin) hx I2 (.cons rfl r) q2
theorem zeb {pl:Sem Bool} (D:MethD X.prog X.w X.K X.mg X.base CX k C m ps dss sp) (hin:dvs∈dss) (c:Cls X.K C) (hr:Room k X.A) (hx:zex CX X Ek) (he:PE X o ta)
    (ht:eval (.Call (.Attribute o m apos) [] [] pos) X.env=(do
      let ov <- eval o X.env
      standAt apos.atName
      let (f,first) <- holding [ov] (getMethod ov m pl)
      callWith pos f first (backTo pos (starEach [] X.env)) (backToKw pos (keywordEach [] X.env))):=by rfl) :
    PE X (.Call (.Attribute o m apos) [] [] pos) (zpe C m sp dvs Ek ta tNil):=by
  obtain ⟨f,fd,F,hm,hb⟩:=D.ex
  intro pins s σ H Q I h
  refine PySem.W.methodCall_KW (pl:=pl) (thn (he pins s σ H _ I h) fun u s1 ⟨x,H1,I1,rx,a,dx,fs,ex,ea,l,q⟩=>?_) ht
  subst ex
  obtain rfl:u=Value.ref a:=rx
  refine zkk I1 ea c hm l ?_
  exact PySem.W.callWith_K0 (first:=[.ref a]) I1.kIn hm.kp (znw (us:=[.ref a]) (vs:=[.ref a]) F hr (hb _ hin) hx I1 (.cons rfl .nil) q)
theorem zmk {pins:List (Addr×Obj)} {σ:St} {H:Hp} {s:Shared} {Q:VK} {us:List Value} {vs:List V} (M:Mk X.K C f) (F:FnOk X.prog X.w X.K X.mg X.base CX k f fd ps sp) (hr:Room (k+1) X.A) (hb:BindsV X.K fd ps dvs)
    (hx:zex CX X Ek) (I:Inv X pins σ H s) (r:Vals vs us)
    (h:∀ x dx,H x=none->H dx=none->dx≠x->sp (.ref x :: (vs++dvs)) (upd (upd H dx (.own x)) x (.ins C dx [])) (fun v H2=>v = .non/\Q (.ref x) H2) (fun v d H'=>Ek v d σ H')) :
    wpAny (model X.prog X.w) X.A (call (.ref C) us) (EP X pins σ Q) X.xe s:=by
  obtain ⟨ds,hd,hb⟩:=hb
  have hq:=h (s.heap.objs.size+1) s.heap.objs.size (I.hok.fresh (Nat.le_succ _)) (I.hok.fresh (Nat.le_refl _)) (Nat.ne_of_lt (Nat.lt_succ_self _))
  have I2:=Inv.made (C:=C) I
  have r2:Vals (V.ref (s.heap.objs.size+1) :: (vs++dvs)) (Value.ref (s.heap.objs.size+1) :: (us++ds)):=.cons rfl (r.append hd)
  have hl:(Value.ref (s.heap.objs.size+1) :: us++ds).length=ps.length:=by
    have e:=r2.length
    rw [F.len _ _ _ _ hq] at e
    exact e.symm
  refine wpAny_call (zte (f:=f) I.kIn M.makes M.init (beq_iff_eq.mp M.fn) (codeAny_mono (F.run _ X.stack _ _ ⟨Value.ref (s.heap.objs.size+1) :: us,[]⟩ (Value.ref (s.heap.objs.size+1) :: (us++ds)) _ _ _ (hr.make C us [])
    (I2.env0.make C us []) (hb _ (Value.ref (s.heap.objs.size+1) :: us) I2.kIn hl) r2 hq) fun r s' hq'=>?_))
  cases r with
  | error e=>exact hx pins σ _ _ e s' I2 hq'
  | ok fl =>
    cases fl with
    | ret u =>
      obtain ⟨v,H',I3,rv,ev,q3⟩:=I2.after hq'
      subst ev
      exact ⟨rv,⟨V.ref (s.heap.objs.size+1),H',I3,rfl,q3⟩⟩
    | next=>exact False.elim hq'
    | brk=>exact False.elim hq'
    | cont=>exact False.elim hq'
theorem zhk (D:MkD X.prog X.w X.K X.mg X.base CX k C ps dss sp) (hin:dvs∈dss) (hr:Room (k+1) X.A) (hx:zex CX X Ek) (hg:Gl X x) (hm:X.mg x=some (.ref C))
    (ha:PA X (e :: es) t) (hdb:(x == ("__debug__" : Str))=false:=by decide) (he:starEach (e :: es) X.env=(false,eval e X.env) :: starEach es X.env:=by rfl) (hpl:(backTo pos (starEach es X.env)).any (·.1)=false:=by rfl) :
    PE X (.Call (.Name x p) (e :: es) [] pos) (tMakeX C sp dvs Ek t):=by
  obtain ⟨f,fd,F,M,hb⟩:=D.ex
  intro pins s σ H Q I h
  refine wpAny_Call_Name_kw (zgq I hg hm ?_ hdb)
  refine PySem.W.callWith_K (h₀:=X.base) I.ok.mod.kin M.kp (thn (ha pos pins s σ H _ I h) fun us s1 ⟨vs,H1,I1,r,q⟩=>⟨I1.kIn,?_⟩) he hpl
  exact zmk M F hr (hb _ hin) hx I1 r q
theorem zml (D:MkD X.prog X.w X.K X.mg X.base CX k C ps dss sp) (hin:dvs∈dss) (hr:Room (k+1) X.A) (hx:zex CX X Ek) (hg:Gl X x) (hm:X.mg x=some (.ref C))
    (hdb:(x == ("__debug__" : Str))=false:=by decide):PE X (.Call (.Name x p) [] [] pos) (tMakeX C sp dvs Ek tNil):=by
  obtain ⟨f,fd,F,M,hb⟩:=D.ex
  intro pins s σ H Q I h
  refine wpAny_Call_Name_kw (zgq I hg hm ?_ hdb)
  exact PySem.W.callWith_K0 I.kIn M.kp (zmk (us:=[]) M F hr (hb _ hin) hx I .nil h)
end
section
variable {X:Cx}
end
end L2
namespace L2
open PySem PySem.Spec PyProof.Rows
def Itrs (lo c:Int) (n:Nat):It:=⟨fun i _=>i<n,fun i H x H'=>H'=H/\x = .int (lo+i*c),fun i _=>n<=i⟩
structure RngOk (i j c:Int) (n:Nat):Prop where
 nz:c≠0
 np:Builtin.divisionGoesByPylong (j-i) c=false
 sm:Builtin.Range.small i j c=true
 eq:(n:Int)=Builtin.Range.rangeSize i j c
def iRng3 (ta:TA):TI:=fun σ H R=>ta σ H fun vs H1=>∃ i j c n,vs = [.int i,.int j,.int c]/\RngOk i j c n/\R (Itrs i c n) H1
section
variable {X:Cx} {tg:Expr}
end
theorem zla {wi:TI} {g:TG} {tb:TS} {D:Ends} {σ:St} {H:Hp} (h:∀ Z:It->Hp->Prop,(∀ J H1,(∃ W:Nat->Nat->St->Hp->Prop,(∃ m,W 0 m σ H1)/\∀ i m σ H,W i m σ H ->
 (J.stop i H/\D.nx σ H)\/(J.go i H/\∃ N:St->Hp->Prop,(∀ σ' H',N σ' H'->∃ m',m' < m/\W (i+1) m' σ' H')/\∀ x H',J.yld i H x H'->g x σ H' fun σ2 H2=>tb { D with nx:=N,ct:=N,bk:=D.nx } σ2 H2))->Z J H1)->wi σ H Z):tFor wi g tb D σ H:=h _ fun _ _ x=>x
theorem pickM {K:PySem.W.Frag} {H:Hp} {t:Addr} {i:Int} {Q:VK} (xs:List Int) (h0:0<=i) (h1:i<xs.length) (k:∀ z:Int,z∈xs->Q (.int z) (upd H t (.lst (xs.map V.int)))):rIxL K (.ref t) (.int i) (upd H t (.lst (xs.map V.int))) Q:=by
 have:=zht (xs:=xs.map V.int) (j:=i.toNat) (v:=V.int (xs[i.toNat]'(by omega))) (by simp)
 rw [Int.toNat_of_nonneg h0] at this
 exact zmg (.of zab) this (k _ (List.getElem_mem _))
section
variable {X:Cx}
end
end L2
namespace Sw
theorem q_cast_ne {d:Int} (h:d≠0):(d:Rat)≠0:=by
 intro z
 exact h (Rat.intCast_inj.mp (by rw [z]; rfl))
theorem zxv (q:Rat):(q.num:Rat) / ((q.den:Int):Rat)=q:=by
 rw [<- Rat.divInt_eq_div]; exact Rat.num_divInt_den q
theorem zsb (q:Rat):0<(q.den:Int):=by
 have:=q.den_nz
 omega
theorem ztm (q:Rat):(q.den:Int)≠0:=by
 have:=q.den_nz
 omega
theorem q_num (q:Rat):(q.num:Rat)=q*((q.den:Int):Rat):=by
 have h:=zxv q
 have d:=q_cast_ne (ztm q)
 grind
theorem q_low (q:Rat):dv q.num q.den = 1:=by
 unfold dv
 have:=q.reduced
 unfold Nat.Coprime at this
 show ((Nat.gcd q.num.natAbs (q.den:Int).natAbs:Nat):Int) = 1
 rw [Int.natAbs_natCast,this]
 rfl
theorem q_fr (q:Rat):Fr q.num q.den:=⟨zsb q,q_low q⟩
theorem fr_q {n d:Int} (f:Fr n d):((n:Rat) / (d:Rat)).num=n/\((((n:Rat) / (d:Rat)).den:Nat):Int)=d:=by
 have hd:d≠0:=by have:=f.pos; omega
 refine Fr.uniq (q_fr _) f ?_
 have h:=q_num ((n:Rat) / (d:Rat))
 generalize hq:(n:Rat) / (d:Rat)=q at h ⊢
 have e:(n:Rat)=q*d:=by have:=q_cast_ne hd; grind
 have:((q.num*d:Int):Rat)=((n*(q.den:Int):Int):Rat):=by
  rw [Rat.intCast_mul,Rat.intCast_mul]
  grind
 exact Rat.intCast_inj.mp this
end Sw
namespace L2
def fq (q:Rat):List V:=[.int q.num,.int (q.den:Int)]
theorem zxw {t b:Int} (hb:b≠0):f2 (Sw.nrm (t,b))=fq ((t:Rat) / (b:Rat)):=by
 have f:=Sw.nrm_fr (q:=(t,b)) hb
 have c:=Sw.nrm_cross (q:=(t,b)) hb
 have e:((Sw.nrm (t,b)).1:Rat) / ((Sw.nrm (t,b)).2:Rat)=(t:Rat) / (b:Rat):=by
  have h1:=Sw.q_cast_ne hb
  have h2:(((Sw.nrm (t,b)).2:Int):Rat)≠0:=Sw.q_cast_ne (by have:=f.pos; omega)
  have c':(((Sw.nrm (t,b)).1*b:Int):Rat)=(((Sw.nrm (t,b)).2*t:Int):Rat):=by rw [c]
  rw [Rat.intCast_mul,Rat.intCast_mul] at c'
  grind
 have g:=Sw.fr_q f
 rw [e] at g
 unfold f2 fq
 rw [g.1,g.2]
end L2
namespace Sw
end Sw
namespace L2
open PySem PySem.Spec PyProof.Rows
def But (p:Addr) (H H':Hp):Prop:=∀ b o,b≠p->H b=some o->H' b=some o
theorem Same.but {p:Addr} {H H':Hp} (h:Same H H'):But p H H':=fun b o _ e=>h b o e
theorem But.trans {p:Addr} {H H1 H2:Hp} (a:But p H H1) (b:But p H1 H2):But p H H2:=fun c o n h=>b c o n (a c o n h)
theorem zhu {p:Addr} {H:Hp} {o:HO}:But p H (upd H p o):=fun b u n e=>by rw [zah n]; exact e
theorem zlb:∀ {fs:List (Str×V)} {f:Str} {v w:V},fs.lookup f=some w->(putF f v fs).length=fs.length
 | [],f,v,w,h=>by cases h
 | (g,x) :: r,f,v,w,h=>by
  unfold putF
  by_cases e:g=f
  ·rw [if_pos e]; rfl
  ·rw [if_neg e]
   have hb:(f == g)=false:=beq_eq_false_iff_ne.mpr fun z=>e z.symm
   simp only [List.lookup,hb] at h
   show (putF f v r).length+1=r.length+1
   rw [zlb h]
theorem zan:∀ {fs:List (Str×V)} {f:Str} {v:V},(putF f v fs).length<=fs.length+1
 | [],f,v=>Nat.le_refl _
 | (g,x) :: r,f,v=>by
  unfold putF
  by_cases e:g=f
  ·rw [if_pos e]; exact Nat.le_succ _
  ·rw [if_neg e]
   show (putF f v r).length+1<=r.length+1+1
   have:=zan (fs:=r) (f:=f) (v:=v)
   omega
structure FB (fs:List (Str×V)) (d:Int) (pr:Addr) (s:Int) (pl:Addr):Prop where
 dep:fs.lookup ("depth" : Str)=some (.int d)
 rat:fs.lookup ("rate" : Str)=some (.ref pr)
 sin:fs.lookup ("since" : Str)=some (.int s)
 lef:fs.lookup ("left" : Str)=some (.ref pl)
 no:∀ m:Str,¬ m = "depth" -> ¬ m = "rate" -> ¬ m = "since" -> ¬ m = "left" -> fs.lookup m=none
 len:fs.length<900
structure Bk (C:Addr) (H:Hp) (p:Addr) (d:Int) (r:Rat) (s:Int) (l:Rat):Prop where
 ex:∃ dx fs pr pl,H p=some (.ins C dx fs)/\FB fs d pr s pl/\H pr=some (.tup (fq r))/\H pl=some (.tup (fq l))
end L2
namespace L2
open PySem PySem.Spec PyProof.Rows
def rFld (K:PySem.W.Frag) (f:Str) (x:V) (H:Hp) (Q:VK):Prop:=∃ a C dx fs v,x = .ref a/\H a=some (.ins C dx fs)/\Cls K C/\NoAttr K C f/\fs.lookup f=some v/\Q v H
theorem tFld_eq {K:PySem.W.Frag} {ta:TE} {f:Str} {σ:St} {H:Hp} {Q:VK}:tFld K ta f σ H Q=ta σ H fun x H1=>rFld K f x H1 Q:=rfl
theorem zap {K:PySem.W.Frag} {f:Str} {a C dx:Addr} {fs:List (Str×V)} {v:V} {H:Hp} {Q:VK} (h:H a=some (.ins C dx fs)) (c:Cls K C) (n:NoAttr K C f) (l:fs.lookup f=some v) (q:Q v H):rFld K f (.ref a) H Q:=⟨a,C,dx,fs,v,rfl,h,c,n,l,q⟩
def rSet (K:PySem.W.Frag) (f:Str) (y x:V) (H:Hp) (Z:Hp->Prop):Prop:=∃ a C dx fs,x = .ref a/\H a=some (.ins C dx fs)/\Cls K C/\NoAttr K C f/\fs.length<1000/\Z (upd H a (.ins C dx (putF f y fs)))
theorem sFld_eq {K:PySem.W.Frag} {ta tv:TE} {f:Str} {D:Ends} {σ:St} {H:Hp}:sFld K ta tv f D σ H=tv σ H fun y H1=>ta σ H1 fun x H2=>rSet K f y x H2 (D.nx σ):=rfl
theorem zcs {K:PySem.W.Frag} {f:Str} {y:V} {a C dx:Addr} {fs:List (Str×V)} {H:Hp} {Z:Hp->Prop} (h:H a=some (.ins C dx fs)) (c:Cls K C) (n:NoAttr K C f) (l:fs.length<1000) (q:Z (upd H a (.ins C dx (putF f y fs)))):rSet K f y (.ref a) H Z:=⟨a,C,dx,fs,rfl,h,c,n,l,q⟩
def rMeth (C:Addr) (m:Str) (x:V) (H:Hp) (Z:Prop):Prop:=∃ a dx fs,x = .ref a/\H a=some (.ins C dx fs)/\fs.lookup m=none/\Z
theorem tMethX_eq {C:Addr} {m:Str} {sp:Sp} {dvs:List V} {Ek:XH} {ta:TE} {t:TA} {σ:St} {H:Hp} {Q:VK} :
    zpe C m sp dvs Ek ta t σ H Q=ta σ H fun x H1=>rMeth C m x H1 (t σ H1 fun vs H2=>sp (x :: (vs++dvs)) H2 Q (fun v d H'=>Ek v d σ H')):=by
  unfold zpe rMeth
  rfl
theorem zbc {C:Addr} {m:Str} {a dx:Addr} {fs:List (Str×V)} {H:Hp} {Z:Prop} (h:H a=some (.ins C dx fs)) (l:fs.lookup m=none) (z:Z):rMeth C m (.ref a) H Z:=⟨a,dx,fs,rfl,h,l,z⟩
theorem zdr {H:Hp} {x dx C:Addr} (h1:H x=none) (h2:H dx=none):Same H (upd (upd H dx (.own x)) x (.ins C dx [])):=fun b o e=>by
 rw [zah (zao e h1),zah (zao e h2)]
 exact e
theorem But.same {x:Addr} {H H1 H':Hp} (b:But x H1 H') (s:Same H H1) (h:H x=none):Same H H':=fun c o e=>b c o (zao e h) (s c o e)
end L2
namespace L2
open PySem PySem.Spec PyProof.Rows
theorem ziy {t:TS} {D:Ends} {σ:St} {H:Hp} (h:∀ R:St->Hp->Prop,(∀ σ H,D.nx σ H->R σ H)->t { D with nx:=R } σ H):t D σ H:=h D.nx fun _ _ x=>x
end L2
namespace L2
open PySem PySem.Spec PyProof.Rows
end L2
namespace Sw
end Sw
namespace L2
open PySem PySem.Spec PyProof.Rows
end L2
namespace L2
open PySem PySem.Spec PyProof.Rows
section
variable {κ:Type} [DecidableEq κ]
def valV (kvs:List (κ×V)) (k:κ):Option V:=(kvs.find? fun kv=>decide (kv.1=k)).map (·.2)
def putK (kvs:List (κ×V)) (k:κ) (v:V):List (κ×V) :=
 if (kvs.any fun kv=>decide (kv.1=k))=true then kvs.map (fun kv=>if kv.1=k then (kv.1,v) else kv) else kvs++[(k,v)]
def dropK (kvs:List (κ×V)) (k:κ):List (κ×V):=kvs.filter fun kv=>decide (kv.1≠k)
theorem zdl {p:κ×V} {r:List (κ×V)} {k:κ} (e:p.1=k):valV (p :: r) k=some p.2:=by simp [valV,List.find?_cons,e]
theorem zdf {p:κ×V} {r:List (κ×V)} {k:κ} (e:¬ p.1=k):valV (p :: r) k=valV r k:=by simp [valV,List.find?_cons,e]
theorem zfk (k:κ):∀ kvs:List (κ×V),(kvs.any fun kv=>decide (kv.1=k))=(valV kvs k).isSome
 | []=>rfl
 | p :: r=>by
  rw [List.any_cons]
  by_cases e:p.1=k
  ·simp only [zdl e,decide_eq_true e,Bool.true_or,Option.isSome_some]
  ·rw [zdf e,decide_eq_false e,Bool.false_or]; exact zfk k r
theorem zpf (k j:κ) (y:V):∀ kvs:List (κ×V),valV (kvs.map fun kv=>if kv.1=k then (kv.1,y) else kv) j=(valV kvs j).map fun x=>if j=k then y else x
 | []=>rfl
 | p :: r=>by
  have ih:=zpf k j y r
  rw [List.map_cons]
  by_cases h:p.1=k
  ·rw [if_pos h]
   by_cases e:p.1=j
   ·rw [zdl (p:=(p.1,y)) e,zdl e,Option.map_some,if_pos (e.symm.trans h)]
   ·rw [zdf (p:=(p.1,y)) e,zdf e,ih]
  ·rw [if_neg h]
   by_cases e:p.1=j
   ·rw [zdl (p:=p) e,zdl e,Option.map_some,if_neg (fun z=>h (e.trans z))]
   ·rw [zdf (p:=p) e,zdf e,ih]
theorem zmm (k j:κ) (y:V):∀ kvs:List (κ×V),valV kvs k=none->valV (kvs++[(k,y)]) j=if j=k then some y else valV kvs j
 | [],_=>by
  by_cases e:k=j
  ·rw [if_pos e.symm]; exact zdl (p:=(k,y)) e
  ·rw [if_neg (fun z=>e z.symm)]; exact zdf (p:=(k,y)) e
 | p :: r,hn=>by
  rw [List.cons_append]
  have hk:¬ p.1=k:=fun z=>by rw [zdl z] at hn; cases hn
  rw [zdf hk] at hn
  have ih:=zmm k j y r hn
  by_cases e:p.1=j
  ·rw [zdl e,zdl e,if_neg (fun z=>hk (e.trans z))]
  ·rw [zdf e,zdf e,ih]
theorem ztn (kvs:List (κ×V)) (k j:κ) (y:V):valV (putK kvs k y) j=if j=k then some y else valV kvs j:=by
 unfold putK
 by_cases a:(kvs.any fun kv=>decide (kv.1=k))=true
 ·rw [if_pos a,zpf]
  rw [zfk] at a
  by_cases e:j=k
  ·obtain ⟨x,hx⟩:=Option.isSome_iff_exists.mp a
   rw [if_pos e,e,hx,Option.map_some,if_pos rfl]
  ·rw [if_neg e]
   cases valV kvs j with
   | none=>rfl
   | some x=>rw [Option.map_some,if_neg e]
 ·rw [if_neg a]
  refine zmm k j y kvs ?_
  rw [zfk] at a
  cases q:valV kvs k with
  | none=>rfl
  | some x=>rw [q] at a; exact (a rfl).elim
theorem zey (kvs:List (κ×V)) (k:κ) (v:V):(putK kvs k v).length<=kvs.length+1:=by
 unfold putK
 split
 ·rw [List.length_map]; omega
 ·rw [List.length_append,List.length_cons,List.length_nil]; omega
theorem RelO.isSome_eq {o:Option V} {u:Option Value} (r:RelO o u):o.isSome=u.isSome:=by
 cases o with
 | none=>cases u with
  | none=>rfl
  | some _=>exact (show False from r).elim
 | some _=>cases u with
  | none=>exact (show False from r).elim
  | some _=>rfl
theorem KV.val {kvs:List (κ×V)} {vs:List (κ×Value)} (r:KV kvs vs) (k:κ):RelO (valV kvs k) (valueAt vs k):=by
 unfold KV at r
 induction r with
 | nil=>exact True.intro
 | @cons p q ps qs h t ih =>
  obtain ⟨h1,h2⟩:=h
  by_cases e:p.1=k
  ·have e':q.1=k:=h1.symm.trans e
   have b:valueAt (q :: qs) k=some q.2:=by simp [valueAt,List.find?_cons,e']
   rw [zdl e,b]; exact h2
  ·have e':¬ q.1=k:=fun z=>e (h1.trans z)
   have b:valueAt (q :: qs) k=valueAt qs k:=by simp [valueAt,List.find?_cons,e']
   rw [zdf e,b]; exact ih
theorem KV.any {kvs:List (κ×V)} {vs:List (κ×Value)} (r:KV kvs vs) (k:κ):(kvs.any fun kv=>decide (kv.1=k))=vs.any fun kv=>decide (kv.1=k):=by
 unfold KV at r
 induction r with
 | nil=>rfl
 | cons h t ih=>rw [List.any_cons,List.any_cons,ih,h.1]
theorem KV.repl {kvs:List (κ×V)} {vs:List (κ×Value)} (r:KV kvs vs) (k:κ) {y:V} {u:Value} (ry:RelV y u) :
    KV (kvs.map fun kv=>if kv.1=k then (kv.1,y) else kv) (vs.map fun kv=>if kv.1=k then (kv.1,u) else kv):=by
  unfold KV at r ⊢
  induction r with
  | nil=>exact .nil
  | @cons p q ps qs h t ih =>
    rw [List.map_cons,List.map_cons]
    refine .cons ?_ ih
    obtain ⟨h1,h2⟩:=h
    by_cases e:p.1=k
    · rw [if_pos e,if_pos (h1.symm.trans e)]; exact ⟨h1,ry⟩
    · rw [if_neg e,if_neg (fun z=>e (h1.trans z))]; exact ⟨h1,h2⟩
theorem KV.put {kvs:List (κ×V)} {vs:List (κ×Value)} (r:KV kvs vs) (k:κ) {y:V} {u:Value} (ry:RelV y u):KV (putK kvs k y) (stored vs k u):=by
 unfold putK stored
 rw [r.any k]
 by_cases e:(vs.any fun kv=>decide (kv.1=k))=true
 ·rw [if_pos e,if_pos e]; exact r.repl k ry
 ·rw [if_neg e,if_neg e]; exact Paired.snoc r ⟨rfl,ry⟩
theorem KV.drop {kvs:List (κ×V)} {vs:List (κ×Value)} (r:KV kvs vs) (k:κ):KV (dropK kvs k) (without vs k):=by
 unfold KV at r ⊢
 unfold dropK without
 induction r with
 | nil=>exact .nil
 | @cons p q ps qs h t ih =>
  obtain ⟨h1,h2⟩:=h
  rw [List.filter_cons,List.filter_cons]
  by_cases e:p.1=k
  ·have a:¬ decide (p.1≠k)=true:=by simp [e]
   have b:¬ decide (q.1≠k)=true:=by simp [h1.symm.trans e]
   rw [if_neg a,if_neg b]; exact ih
  ·have e':¬ q.1=k:=fun z=>e (h1.trans z)
   have a:decide (p.1≠k)=true:=by simp [e]
   have b:decide (q.1≠k)=true:=by simp [e']
   rw [if_pos a,if_pos b]; exact .cons ⟨h1,h2⟩ ih
theorem KV.keys {kvs:List (κ×V)} {vs:List (κ×Value)} (r:KV kvs vs):kvs.map (·.1)=vs.map (·.1):=by
 unfold KV at r
 induction r with
 | nil=>rfl
 | cons h t ih=>rw [List.map_cons,List.map_cons,ih,h.1]
theorem KV.length {kvs:List (κ×V)} {vs:List (κ×Value)} (r:KV kvs vs):kvs.length=vs.length:=Paired.length r
theorem zlc (kvs:List (κ×V)) (k:κ):(dropK kvs k).length<=kvs.length:=List.length_filter_le _ _
end
theorem kV_is {P:Program} {w:World} {k:Key} {u:Value} (r:RelV (kV k) u):(zax P w).is k u=true:=by
 cases k with
 | inl i=>obtain ⟨t,e⟩:=(show ∃ t,u=Value.int i t from r); subst e; exact znm P w i t
 | inr x=>obtain ⟨t,e⟩:=(show ∃ t,u=Value.str x t from r); subst e; exact znn P w x t
theorem zmn {P:Program} {w:World}:∀ {ks:List Key} {us:List Value},Vals (ks.map kV) us->ItemsAre (zax P w) ks us
 | [],_,r=>by rw [List.map_nil] at r; cases r; exact .nil
 | k :: ks,_,r=>by
  rw [List.map_cons] at r
  cases r with
  | cons h t=>exact .cons (kV_is h) (zmn t)
abbrev KT (H:Hp):List (List Key×V)->List (List Key×Addr×Value)->Prop:=Paired fun p q=>p.1=q.1/\H q.2.1=some (.tup (p.1.map kV))/\RelV p.2 q.2.2
theorem KT.val {H:Hp} {kvs:List (List Key×V)} {xs:List (List Key×Addr×Value)} (r:KT H kvs xs) (k:List Key):RelO (valV kvs k) ((atKey xs k).map (·.2)):=by
 induction r with
 | nil=>exact True.intro
 | @cons p q ps qs h t ih =>
  obtain ⟨h1,_,h2⟩:=h
  by_cases e:p.1=k
  ·have e':q.1=k:=h1.symm.trans e
   have b:atKey (q :: qs) k=some q.2:=by simp [atKey,List.find?_cons,e']
   rw [zdl e,b]; exact h2
  ·have e':¬ q.1=k:=fun z=>e (h1.trans z)
   have b:atKey (q :: qs) k=atKey qs k:=by simp [atKey,List.find?_cons,e']
   rw [zdf e,b]; exact ih
theorem KT.repl {H:Hp} {kvs:List (List Key×V)} {xs:List (List Key×Addr×Value)} (r:KT H kvs xs) (k:List Key) {y:V} {u:Value} (ry:RelV y u) :
    KT H (kvs.map fun kv=>if kv.1=k then (kv.1,y) else kv) (xs.map (putAt k u)):=by
  induction r with
  | nil=>exact .nil
  | @cons p q ps qs h t ih =>
    rw [List.map_cons,List.map_cons]
    refine .cons ?_ ih
    obtain ⟨h1,h2,h3⟩:=h
    unfold putAt
    by_cases e:p.1=k
    · rw [if_pos e,if_pos (h1.symm.trans e)]; exact ⟨h1,h2,ry⟩
    · rw [if_neg e,if_neg (fun z=>e (h1.trans z))]; exact ⟨h1,h2,h3⟩
theorem KT.put {H:Hp} {kvs:List (List Key×V)} {xs:List (List Key×Addr×Value)} (r:KT H kvs xs) (k:List Key) {b:Addr} {y:V} {u:Value} (hb:H b=some (.tup (k.map kV))) (ry:RelV y u) :
    KT H (putK kvs k y) (storedH xs k b u):=by
  have e:(kvs.any fun kv=>decide (kv.1=k))=(atKey xs k).isSome:=by
    rw [zfk,(r.val k).isSome_eq,Option.isSome_map]
  unfold putK storedH
  rw [e]
  by_cases q:(atKey xs k).isSome=true
  · rw [if_pos q,if_pos q]; exact r.repl k ry
  · rw [if_neg q,if_neg q]; exact Paired.snoc r ⟨rfl,hb,ry⟩
theorem KT.keeps {H H':Hp} {kvs:List (List Key×V)} {xs:List (List Key×Addr×Value)} (r:KT H kvs xs) (ht:∀ b ys,H b=some (.tup ys)->H' b=some (.tup ys)):KT H' kvs xs :=
 Paired.mapP r fun _ _ z=>⟨z.1,ht _ _ z.2.1,z.2.2⟩
section
variable {P:Program} {w:World} {H:Hp} {h:Heap} {a:Addr}
theorem rd_of {u:HO} (ok:HOk P w H h) (e:Rd H a u):ObjOk P w H h a u:=e.ok ok
theorem dk_rd {kvs:List (Key×V)} (ok:HOk P w H h) (e:Rd H a (.dK kvs)):kvs.length<=sizeLine/\(a == sysModules)=false/\∃ vs,KV kvs vs/\h.DictOf (zax P w) a vs :=
 show ObjOk P w H h a (.dK kvs) from rd_of ok e
theorem dk_of {kvs:List (Key×V)} (ok:HOk P w H h) (e:H a=some (.dK kvs)):kvs.length<=sizeLine/\(a == sysModules)=false/\∃ vs,KV kvs vs/\h.DictOf (zax P w) a vs:=dk_rd ok (.inl e)
theorem zmo {ks:List Key} (ok:HOk P w H h) (e:H a=some (.tup (ks.map kV))):(tupleKind (zax P w)).is h ks a:=by
 obtain ⟨_,its,r,o,h1,h2,n,h3⟩:=(show ObjOk P w H h a (.tup (ks.map kV)) from ok a _ e)
 exact ⟨o,its.toArray,n,h1,h2,h3,by simpa using zmn r⟩
theorem dt_rd {kvs:List (List Key×V)} (ok:HOk P w H h) (e:Rd H a (.dT kvs)):kvs.length<=sizeLine/\(a == sysModules)=false /\
    ∃ xs,KT H kvs xs/\h.DictOfH (tupleKind (zax P w)) a xs:=by
  obtain ⟨z,y,xs,r,o,es,ep,h1,h2,h3,h4,h5⟩:=(show ObjOk P w H h a (.dT kvs) from rd_of ok e)
  refine ⟨z,y,xs,r,o,es,ep,h1,h2,h3,h4,fun x hx=>?_,h5⟩
  have all:∀ {l:List (List Key×V)} {m:List (List Key×Addr×Value)},KT H l m->∀ x∈m,(tupleKind (zax P w)).is h x.1 x.2.1:=by
    intro l m q
    induction q with
    | nil=>intro x hx; exact nomatch hx
    | @cons p q ps qs hq t ih =>
      intro x hx
      rcases List.mem_cons.mp hx with e | hx
      · subst e
        exact zmo ok (by rw [<- hq.1]; exact hq.2.1)
      · exact ih x hx
  exact all r x hx
theorem dt_of {kvs:List (List Key×V)} (ok:HOk P w H h) (e:H a=some (.dT kvs)):kvs.length<=sizeLine/\(a == sysModules)=false /\
    ∃ xs,KT H kvs xs/\h.DictOfH (tupleKind (zax P w)) a xs:=dt_rd ok (.inl e)
end
def DGet (H:Hp) (a:Addr) (y:V) (r:Option V):Prop :=
 (∃ kvs k,Rd H a (.dK kvs)/\y=kV k/\r=valV kvs k)\/∃ kvs k b,Rd H a (.dT kvs)/\y = .ref b/\H b=some (.tup (k.map kV))/\r=valV kvs k
def DPut (H:Hp) (a:Addr) (y v:V) (H':Hp):Prop :=
 (∃ kvs k,H a=some (.dK kvs)/\y=kV k/\kvs.length<sizeLine/\H'=upd H a (.dK (putK kvs k v))) \/
 ∃ kvs k b,H a=some (.dT kvs)/\y = .ref b/\H b=some (.tup (k.map kV))/\kvs.length<sizeLine/\H'=upd H a (.dT (putK kvs k v))
theorem DGet.k {H:Hp} {a:Addr} {kvs:List (Key×V)} {k:Key} (e:H a=some (.dK kvs)):DGet H a (kV k) (valV kvs k):=.inl ⟨kvs,k,.inl e,rfl,rfl⟩
theorem DPut.k {H:Hp} {a:Addr} {kvs:List (Key×V)} {k:Key} {v:V} (e:H a=some (.dK kvs)) (hl:kvs.length<sizeLine):DPut H a (kV k) v (upd H a (.dK (putK kvs k v))):=.inl ⟨kvs,k,e,rfl,hl,rfl⟩
section
variable {X:Cx} {pins:List (Addr×Obj)} {σ:St} {H:Hp} {s:Shared} {a:Addr} {y v:V} {u r:Value} {o:Option V} {A:Around} {E:Value->Shared->Prop}
theorem Inv.big (I:Inv X pins σ H s):sysModules<s.heap.objs.size:=by
 have h:mainGlobals<s.heap.objs.size:=(I.mod.glob.keeps I.bk).lt
 exact Nat.lt_trans (by decide) h
theorem zsc {Q:Value->Shared->Prop} (hu:A.units+1<cLine) (I:Inv X pins σ H s) (g:DGet H a y (some v)) (ry:RelV y u) (h:∀ w' s',Inv X pins σ H s'->RelV v w'->Q w' s') :
    wpAny (model X.prog X.w) A (getItem (.ref a) u) Q E s:=by
  rcases g with ⟨kvs,k,e,ey,l⟩ | ⟨kvs,k,b,e,ey,eb,l⟩
  · subst ey
    obtain ⟨z,hd,vs,rel,dd⟩:=dk_rd I.hok e
    obtain ⟨w',hw,rw'⟩:=RelO.some_of (v:=v) (o:=valueAt vs k) (by rw [l]; exact rel.val k)
    exact wpAny_getItem_of (kV_is ry) dd.mapOf hw (h w' _ (I.tok _) rw')
  · subst ey
    cases (show u=Value.ref b from ry)
    obtain ⟨z,hd,xs,rel,dd⟩:=dt_rd I.hok e
    obtain ⟨w',hw,rw'⟩:=RelO.some_of (v:=v) (o:=(atKey xs k).map (·.2)) (by rw [l]; exact rel.val k)
    obtain ⟨p,hp,hp2⟩:=Option.map_eq_some_iff.mp hw
    refine wpAny_getItem_heap (tupleKind_room_in1 hu) (zmo I.hok eb) dd hp ?_
    rw [hp2]
    exact h w' _ (I.tok _) rw'
theorem d_in {Q:Value->Shared->Prop} (hu:A.units+1<cLine) (I:Inv X pins σ H s) (g:DGet H a y o) (ry:RelV y u) (h:∀ s',Inv X pins σ H s'->Q (.bool o.isSome) s') :
    wpAny (model X.prog X.w) A (compareOp .In u (.ref a)) Q E s:=by
  rcases g with ⟨kvs,k,e,ey,l⟩ | ⟨kvs,k,b,e,ey,eb,l⟩
  · subst ey
    obtain ⟨z,hd,vs,rel,dd⟩:=dk_rd I.hok e
    refine wpAny_in_of (kV_is ry) hd dd.mapOf ?_
    rw [<- (rel.val k).isSome_eq,<- l]
    exact h _ (I.tok _)
  · subst ey
    cases (show u=Value.ref b from ry)
    obtain ⟨z,hd,xs,rel,dd⟩:=dt_rd I.hok e
    refine wpAny_in_heap (tupleKind_room_in1 hu) (zmo I.hok eb) hd dd ?_
    have q:=(rel.val k).isSome_eq
    rw [Option.isSome_map] at q
    rw [<- q,<- l]
    exact h _ (I.tok _)
theorem zvq {Q:Value->Shared->Prop} (hu:A.units+1<cLine) (I:Inv X pins σ H s) (g:DGet H a y o) (ry:RelV y u) (h:∀ s',Inv X pins σ H s'->Q (.bool (!o.isSome)) s') :
    wpAny (model X.prog X.w) A (compareOp .NotIn u (.ref a)) Q E s:=by
  rcases g with ⟨kvs,k,e,ey,l⟩ | ⟨kvs,k,b,e,ey,eb,l⟩
  · subst ey
    obtain ⟨z,hd,vs,rel,dd⟩:=dk_rd I.hok e
    refine wpAny_notIn_of (kV_is ry) hd dd.mapOf ?_
    rw [<- (rel.val k).isSome_eq,<- l]
    exact h _ (I.tok _)
  · subst ey
    cases (show u=Value.ref b from ry)
    obtain ⟨z,hd,xs,rel,dd⟩:=dt_rd I.hok e
    refine wpAny_notIn_heap (tupleKind_room_in1 hu) (zmo I.hok eb) hd dd ?_
    have q:=(rel.val k).isSome_eq
    rw [Option.isSome_map] at q
    rw [<- q,<- l]
    exact h _ (I.tok _)
theorem zld {h':Heap} {t':Nat} {ob:HO} (I:Inv X pins σ H s) (mu:Mut (H a)) (hs:Heap.SameBut a s.heap h') (he:∃ q,h'.get? a=some q) (new:ObjOk X.prog X.w (upd H a ob) h' a ob) :
    Inv X pins σ (upd H a ob) { s with heap:=h',toks:=t' } :=
  I.write (x:=a) (e:=a) mu (.inl rfl) (fun b q hb z=>(hs.2 b hb).trans z) he new
theorem zsd {P:Program} {w:World} {H':Hp} {h':Heap} {kvs:List (Key×V)} {vs:List (Key×Value)} (z:kvs.length<=sizeLine) (hd:(a == sysModules)=false) (rel:KV kvs vs) (dd:h'.DictOf (zax P w) a vs) :
    ObjOk P w H' h' a (.dK kvs):=⟨z,hd,vs,rel,dd⟩
theorem zse {H':Hp} {Q:Unit->Shared->Prop} (hu:A.units+1<cLine) (I:Inv X pins σ H s) (g:DPut H a y v H') (ry:RelV y u) (rv:RelV v r) (h:∀ s',Inv X pins σ H' s'->Q () s') :
    wpAny (model X.prog X.w) A (setItem (.ref a) u r) Q E s:=by
  rcases g with ⟨kvs,k,e,ey,l,eH⟩ | ⟨kvs,k,b,e,ey,eb,l,eH⟩
  · subst ey eH
    obtain ⟨z,hd,vs,rel,dd⟩:=dk_of I.hok e
    have hz:vs.length<=sizeLine:=by rw [<- rel.length]; exact z
    have hl:(putK kvs k v).length<=sizeLine:=by have:=zey kvs k v; omega
    refine wpAny_setItem_pairs (hsz:=hz) (kV_is ry) dd fun h' dd' hs=>h _ ?_
    have he:∃ q,h'.get? a=some q:=let ⟨q,_,_,hq,_⟩:=dd'; ⟨q,hq⟩
    exact zld I (by rw [e]; exact True.intro) hs he (zsd hl hd (rel.put k rv) dd')
  · subst ey eH
    cases (show u=Value.ref b from ry)
    obtain ⟨z,hd,xs,rel,dd⟩:=dt_of I.hok e
    have hz:xs.length<=sizeLine:=by rw [<- Paired.length rel]; exact z
    have hl:(putK kvs k v).length<=sizeLine:=by have:=zey kvs k v; omega
    refine wpAny_setItem_heap (hsz:=hz) (tupleKind_room_in1 hu) (zmo I.hok eb) dd fun h' dd' hs=>h _ ?_
    obtain ⟨q,es,ep,hq,h2,h3,h4,_,h5⟩:=dd'
    refine zld I (by rw [e]; exact True.intro) hs ⟨q,hq⟩ ⟨hl,hd,_,(rel.put k eb rv).keeps fun c ys ec=>?_,q,es,ep,hq,h2,h3,h4,h5⟩
    rw [zah (ne_of ec e (fun z=>nomatch z))]
    exact ec
end
section
variable {X:Cx} {pins:List (Addr×Obj)} {σ:St} {H:Hp} {s:Shared} {a:Addr} {kvs:List (Key×V)} {k:Key} {u:Value} {A:Around} {E:Value->Shared->Prop}
theorem d_pop {v:V} {more:List Value} {Q:Value->Shared->Prop} (I:Inv X pins σ H s) (e:H a=some (.dK kvs)) (ry:RelV (kV k) u) (l:valV kvs k=some v) (hm:more = []\/∃ x,more = [x])
    (h:∀ w' s',Inv X pins σ (upd H a (.dK (dropK kvs k))) s'->RelV v w'->Q w' s'):wpAny (model X.prog X.w) A (call (.builtin "dict.pop") (.ref a :: u :: more)) Q E s:=by
  obtain ⟨z,hd,vs,rel,dd⟩:=dk_of I.hok e
  obtain ⟨w',hw,rw'⟩:=RelO.some_of (v:=v) (o:=valueAt vs k) (by rw [<- l]; exact rel.val k)
  have hp:(keyPart u).isSome=true:=by
    cases k with
    | inl i=>obtain ⟨t,q⟩:=(show ∃ t,u=Value.int i t from ry); subst q; rfl
    | inr x=>obtain ⟨t,q⟩:=(show ∃ t,u=Value.str x t from ry); subst q; rfl
  have ha:argsOk "dict.pop" ⟨.ref a :: u :: more,[]⟩:=by
    rcases hm with q | ⟨x,q⟩
    · subst q; exact PySem.F.args_dict_pop_2 _ _
    · subst q; exact PySem.F.args_dict_pop_3 _ _ _
  refine call_meetsIn PySem.F.slot_dict_pop dd.typeIs PySem.F.entry_dict_pop ha (meets_dict_pop_there (zax X.prog X.w) a (kV_is ry) more hm hp)
    ⟨vs,w',dd,by rw [<- rel.length]; exact z,hw,fun h' dd' hs=>h w' _ ?_ rw'⟩
  have he:∃ q,h'.get? a=some q:=let ⟨q,_,_,hq,_⟩:=dd'; ⟨q,hq⟩
  exact zld I (by rw [e]; exact True.intro) hs he (zsd (Nat.le_trans (zlc kvs k) z) hd (rel.drop k) dd')
theorem d_len {Q:Value->Shared->Prop} (I:Inv X pins σ H s) (e:Rd H a (.dK kvs)) (h:∀ t s',Inv X pins σ H s'->Q (.int kvs.length t) s'):wpAny (model X.prog X.w) A (call (.builtin "len") [.ref a]) Q E s:=by
 obtain ⟨z,hd,vs,rel,dd⟩:=dk_rd I.hok e
 refine call_len_dict hd dd (by rw [<- rel.length]; rw [sizeLine_eq] at z; omega) ?_
 rw [<- rel.length]
 exact h _ _ (I.tok _)
end
def NoSl (i:Expr):Prop:=∀ ov iv,subscripted i false ov iv=operate [ov,iv] (getItem ov iv)
theorem zvr {prog:Program} {w:World} {A:Around} {E:Value->Shared->Prop} {s:Shared} {env:Env} {value slice:Expr} {pos:Pos} {T id:String} {Q:Value->Shared->Prop}
    (hl:typeLookup (.type T) "__getitem__" = pure (some (.builtin id))) (hs:NoSl slice)
    (h:wpAny (model prog w) A (eval value env) (fun o s₁=>wpAny (model prog w) A (eval slice env) (fun i s₂=>s₂.TypeIs o T/\wpAny (model prog w) A (getItem o i) Q E s₂) E s₁) E s) :
    wpAny (model prog w) A (eval (.Subscript value slice pos) env) Q E s:=by
  refine Subscript_ (wpAny_mono h (fun o s₁ h₁=>wpAny_mono h₁ (fun i s₂ h₂=>?_) fun _ _ x=>x) fun _ _ x=>x)
  obtain ⟨hT,h₂⟩:=h₂
  unfold subscriptTail
  refine wpAny_bind ?_
  rw [getitemInPython_of_ne hT.not_modules]
  refine wpAny_bind (wpAny_specialOf hT hl ?_)
  have fin:wpAny (model prog w) A (subscripted slice false o i) (fun r s₃=>wpAny (model prog w) A (letTemporaryGo value o r >>= fun _=>pure r) Q E s₃) E s₂:=by
    rw [hs o i]
    exact wpAny_operating (wpAny_mono h₂ (fun r s₃ h₃=>wpAny_bind (wpAny_letTemporaryGo (wpAny_pure h₃))) fun _ _ x=>x)
  first
    | exact wpAny_pure (wpAny_bind fin)
    | exact wpAny_bind (wpAny_pure (wpAny_bind fin))
    | exact wpAny_bind fin
theorem znx {X:Cx} {pins:List (Addr×Obj)} {σ:St} {H:Hp} {s:Shared} {a:Addr} {y:V} {o:Option V} (I:Inv X pins σ H s) (g:DGet H a y o):s.TypeIs (.ref a) "dict" := by
 rcases g with ⟨kvs,k,e,_,_⟩ | ⟨kvs,k,b,e,_,_,_⟩
 ·obtain ⟨_,_,vs,_,dd⟩:=dk_rd I.hok e
  exact dd.typeIs
 ·obtain ⟨_,_,xs,_,dd⟩:=dt_rd I.hok e
  exact dd.typeIs
def tDGet (td ty:TE):TE:=fun σ H Q=>td σ H fun x H1=>ty σ H1 fun y H2=>∃ a v,x = .ref a/\DGet H2 a y (some v)/\Q v H2
def tDIn (ty td:TE):TE:=fun σ H Q=>ty σ H fun y H1=>td σ H1 fun x H2=>∃ a o,x = .ref a/\DGet H2 a y o/\Q (.bl o.isSome) H2
def tDNotIn (ty td:TE):TE:=fun σ H Q=>ty σ H fun y H1=>td σ H1 fun x H2=>∃ a o,x = .ref a/\DGet H2 a y o/\Q (.bl (!o.isSome)) H2
def sDPut (td ty tv:TE):TS:=fun D σ H=>tv σ H fun v H1=>td σ H1 fun x H2=>ty σ H2 fun y H3=>∃ a H4,x = .ref a/\DPut H3 a y v H4/\D.nx σ H4
section
variable {X:Cx} {o i e value:Expr} {pos pos' tpos:Pos} {td ty tv:TE}
theorem zca (hu:X.A.units+1<cLine) (ho:PE X o td) (hi:PE X i ty) (hs:NoSl i):PE X (.Subscript o i pos) (tDGet td ty):=by
 intro pins s σ H Q I h
 refine zvr PySem.F.slot_dict_getitem.lookup hs (thn (ho pins s σ H _ I h) fun u s1 ⟨x,H1,I1,rx,q1⟩=>thn (hi pins s1 σ H1 _ I1 q1) fun iv s2 ⟨y,H2,I2,ry,a,v,ex,g,q2⟩=>?_)
 subst ex
 obtain rfl:u=Value.ref a:=rx
 exact ⟨znx I2 g,zsc hu I2 g ry fun w' s3 I3 rw'=>⟨v,H2,I3,rw',q2⟩⟩
theorem zuv (hu:X.A.units+1<cLine) (hi:PE X i ty) (ho:PE X o td):PC X .In i o (tDIn ty td):=by
 intro pins s σ H Q I h
 refine thn (hi pins s σ H _ I h) fun iv s1 ⟨y,H1,I1,ry,q1⟩=>thn (ho pins s1 σ H1 _ I1 q1) fun u s2 ⟨x,H2,I2,rx,a,ov,ex,g,q2⟩=>?_
 subst ex
 obtain rfl:u=Value.ref a:=rx
 exact d_in hu I2 g ry fun s3 I3=>⟨.bl ov.isSome,H2,I3,rfl,q2⟩
theorem zeo (hu:X.A.units+1<cLine) (hi:PE X i ty) (ho:PE X o td):PC X .NotIn i o (tDNotIn ty td):=by
 intro pins s σ H Q I h
 refine thn (hi pins s σ H _ I h) fun iv s1 ⟨y,H1,I1,ry,q1⟩=>thn (ho pins s1 σ H1 _ I1 q1) fun u s2 ⟨x,H2,I2,rx,a,ov,ex,g,q2⟩=>?_
 subst ex
 obtain rfl:u=Value.ref a:=rx
 exact zvq hu I2 g ry fun s3 I3=>⟨.bl (!ov.isSome),H2,I3,rfl,q2⟩
theorem zhv (hu:X.A.units+1<cLine) (ho:PE X o td) (hi:PE X i ty) (hv:PE X value tv) (hs:swapsWith value (some (.Subscript o i pos')) pos.line X.env=pure false) :
    PS X (.Assign [.Subscript o i pos'] value pos) (sDPut td ty tv):=by
  intro pins s σ H D I h
  refine wpAny_Assign_Subscript (thn (hv pins s σ H _ I h) fun r s1 ⟨v,H1,I1,rv,q1⟩=>thn (ho pins s1 σ H1 _ I1 q1) fun u s2 ⟨x,H2,I2,rx,q2⟩=>thn (hi pins s2 σ H2 _ I2 q2) fun iv s3 ⟨y,H3,I3,ry,a,H4,ex,g,q3⟩=>?_) hs
  subst ex
  obtain rfl:u=Value.ref a:=rx
  exact zse hu I3 g ry rv fun s4 I4=>⟨σ,H4,I4,q3⟩
end
theorem zpg {P:Program} {w:World} {H:Hp} (h:Heap) (hb:sysModules<h.objs.size):ObjOk P w H (h.push { cls:=.type "dict", data:=.dict #[] }) h.objs.size (.dK []) :=
 ⟨Nat.zero_le _,beq_eq_false_iff_ne.mpr (Ne.symm (Nat.ne_of_lt hb)),[],.nil,Heap.DictOf.new h⟩
def tDNewK:TE:=fun _ H Q=>∀ p,H p=none->Q (.ref p) (upd H p (.dK []))
section
variable {X:Cx} {pos:Pos}
theorem zfz:PE X (.Dict [] [] pos) tDNewK:=fun pins s σ H Q I h =>
 wpAny_Dict_empty ⟨.ref s.heap.objs.size,_,I.laid (a:=s.heap.objs.size) (o:=.dK []) (t':=s.toks) (fun _ _ q=>Heap.get?_push_of_some _ q) (Nat.le_refl _) (zpg s.heap I.big),rfl,h _ (I.hok.fresh (Nat.le_refl _))⟩
end
def zmp:List (TE×TE)->St->Hp->(List (V×V)->Hp->Prop)->Prop
 | [],_,H,Q=>Q [] H
 | (tk,tv) :: r,σ,H,Q=>tk σ H fun x H1=>tv σ H1 fun y H2=>zmp r σ H2 fun ps H3=>Q ((x,y) :: ps) H3
abbrev VV:List (V×V)->List (Value×Value)->Prop:=Paired fun p q=>RelV p.1 q.1/\RelV p.2 q.2
def PPs (X:Cx) (pos:Pos) (keys:List (Option Expr)) (values:List Expr) (trs:List (TE×TE)):Prop :=
 ∀ (pins:List (Addr×Obj)) (s:Shared) (σ:St) (H:Hp) (Q:List (V×V)->Hp->Prop),Inv X pins σ H s->zmp trs σ H Q ->
  wpAny (model X.prog X.w) X.A (evalPairs (pairTrees keys values X.env pos)) (fun vs s'=>∃ ps H',Inv X pins σ H' s'/\VV ps vs/\Q ps H') X.xe s
theorem zvs {X:Cx} {pos:Pos}:PPs X pos [] [] []:=fun pins s σ H Q I h=>pairTrees_nil_walk ⟨[],H,I,.nil,h⟩
theorem zto {X:Cx} {pos:Pos} {k v:Expr} {ks:List (Option Expr)} {vs:List Expr} {tk tv:TE} {trs:List (TE×TE)} (hk:PE X k tk) (hv:PE X v tv) (hr:PPs X pos ks vs trs) :
    PPs X pos (some k :: ks) (v :: vs) ((tk,tv) :: trs):=fun pins s σ H Q I h =>
  pairTrees_cons_walk (thn (hk pins s σ H _ I h) fun u s1 ⟨x,H1,I1,rx,q1⟩=>thn (hv pins s1 σ H1 _ I1 q1) fun w2 s2 ⟨y,H2,I2,ry,q2⟩ =>
    thn (hr pins s2 σ H2 _ I2 q2) fun ws s3 ⟨ps,H3,I3,rel,q3⟩=>⟨(x,y) :: ps,H3,I3,.cons ⟨rx,ry⟩ rel,q3⟩)
def zgm (kvs more:List (Key×V)):List (Key×V):=more.foldl (fun acc kv=>putK acc kv.1 kv.2) kvs
theorem KV.merge:∀ {more:List (Key×V)} {rs:List (Key×Value)} {kvs:List (Key×V)} {vs:List (Key×Value)},KV more rs->KV kvs vs->KV (zgm kvs more) (merged vs rs):=by
 intro more rs kvs vs r
 unfold KV at r
 induction r generalizing kvs vs with
 | nil=>intro q; exact q
 | @cons p q ps qs h t ih =>
  intro r0
  have e:KV (putK kvs p.1 p.2) (stored vs q.1 q.2):=by
   have:=r0.put p.1 h.2
   rw [<- h.1]; exact this
  exact ih e
theorem zhl:∀ (more kvs:List (Key×V)),(zgm kvs more).length<=kvs.length+more.length
 | [],kvs=>by show kvs.length<=kvs.length+0; omega
 | p :: r,kvs=>by
  have h1:=zhl r (putK kvs p.1 p.2)
  have h2:=zey kvs p.1 p.2
  show (zgm (putK kvs p.1 p.2) r).length<=_
  rw [List.length_cons]; omega
theorem zkn {P:Program} {w:World}:∀ {kvs:List (Key×V)} {ws:List (Value×Value)},VV (kvs.map fun kv=>(kV kv.1,kv.2)) ws->∃ rs,Carries (zax P w) ws rs/\KV kvs rs
 | [],_,r=>by rw [List.map_nil] at r; cases r; exact ⟨[],True.intro,.nil⟩
 | p :: kvs,_,r=>by
  rw [List.map_cons] at r
  cases r with
  | @cons a b as bs h t =>
   obtain ⟨rs,c,q⟩:=zkn (P:=P) (w:=w) t
   obtain ⟨b1,b2⟩:=b
   exact ⟨(p.1,b2) :: rs,⟨kV_is h.1,rfl,c⟩,.cons ⟨rfl,h.2⟩ q⟩
def tDisp (trs:List (TE×TE)):TE:=fun σ H Q=>∀ p,H p=none->zmp trs σ (upd H p (.dK [])) fun ps H2=>H2 p=some (.dK [])/\∃ kvs:List (Key×V),ps=kvs.map (fun kv=>(kV kv.1,kv.2))/\kvs.length<=15/\Q (.ref p) (upd H2 p (.dK (zgm [] kvs)))
theorem zvt {X:Cx} {pos:Pos} {keys:List (Option Expr)} {values:List Expr} {trs:List (TE×TE)} (h:PPs X pos keys values trs) (hall:keys.all (·.isSome)=true) (hl:keys.length=values.length) (h0:keys≠[])
    (h15:keys.length<=15):PE X (.Dict keys values pos) (tDisp trs):=by
  intro pins s σ H Q I q
  have hn:=I.hok.fresh (Nat.le_refl s.heap.objs.size)
  have I1:=I.laid (a:=s.heap.objs.size) (o:=.dK []) (h':=s.heap.push { cls:=.type "dict", data:=.dict #[] }) (t':=s.toks) (fun _ _ q=>Heap.get?_push_of_some _ q) (Nat.le_refl _) (zpg s.heap I.big)
  refine wpAny_Dict_walk (knd:=zax X.prog X.w) hall hl h0 h15 (thn (h pins _ σ _ _ I1 (q _ hn)) fun ws s2 ⟨ps,H2,I2,rel,e,kvs,ep,lk,q2⟩=>?_)
  subst ep
  obtain ⟨rs,c,rk⟩:=zkn (P:=X.prog) (w:=X.w) rel
  obtain ⟨z,hd,vs0,r0,dd⟩:=dk_of I2.hok e
  cases r0
  refine ⟨rs,c,dd,fun h' dd' hs=>⟨.ref s.heap.objs.size,_,?_,rfl,q2⟩⟩
  have hz:(zgm [] kvs).length<=sizeLine:=by
    have h1:=zhl kvs []
    rw [List.length_nil] at h1
    rw [sizeLine_eq]; omega
  have he:∃ q,h'.get? s.heap.objs.size=some q:=let ⟨q,_,_,hq,_⟩:=dd'; ⟨q,hq⟩
  exact zld I2 (by rw [e]; exact True.intro) hs he (zsd hz hd (rk.merge .nil) dd')
structure M1 (X:Cx) (o:Expr) (m:Str) (apos:Pos) (e:Expr) (cpos:Pos):Prop where
 base:attributeBase o m X.env (eval o X.env)=eval o X.env
 few:((backTo cpos (starEach [e] X.env)).all (fun x=>!x.1) && (backToKw cpos (keywordEach [] X.env)).all (fun x=>x.1.isSome)
  && decide (([e]:List Expr).length+([]:List Keyword).length+(if ([]:List Keyword).isEmpty then 0 else 1)<30))=true
 line:(apos.endLine == cpos.line)=true
 trees:backTo cpos (starEach [e] X.env) = [(false,eval e X.env)]
def IsD (H:Hp) (a:Addr):Prop:=(∃ kvs,Rd H a (.dK kvs))\/∃ kvs,Rd H a (.dT kvs)
theorem zph {X:Cx} {pins:List (Addr×Obj)} {σ:St} {H:Hp} {s:Shared} {a:Addr} (I:Inv X pins σ H s) (d:IsD H a) :
    s.TypeIs (.ref a) "dict" /\ (∀ b,Value.ref a = .ref b->∃ ob,s.heap.get? b=some ob/\ob.dict=none)/\(a == sysModules)=false:=by
  rcases d with ⟨kvs,e⟩ | ⟨kvs,e⟩
  · obtain ⟨_,hd,vs,_,dd⟩:=dk_rd I.hok e
    refine ⟨dd.typeIs,fun b q=>?_,hd⟩
    cases q
    obtain ⟨ob,_,_,h1,h2,_⟩:=dd
    exact ⟨ob,h1,h2.2.1⟩
  · obtain ⟨_,hd,xs,_,dd⟩:=dt_rd I.hok e
    refine ⟨dd.typeIs,fun b q=>?_,hd⟩
    cases q
    obtain ⟨ob,_,_,h1,h2,_⟩:=dd
    exact ⟨ob,h1,h2.2.1⟩
section
variable {X:Cx} {pins:List (Addr×Obj)} {σ:St} {H:Hp} {s:Shared} {a:Addr} {y d:V} {u r:Value} {o:Option V} {A:Around} {E:Value->Shared->Prop}
end
def tDGet1 (td ty:TE):TE:=fun σ H Q=>td σ H fun x H1=>∃ a,x = .ref a/\IsD H1 a/\ty σ H1 fun y H2=>∃ o,DGet H2 a y o/\Q (o.getD .non) H2
def tDGet2 (td ty tx:TE):TE:=fun σ H Q=>td σ H fun x H1=>∃ a,x = .ref a/\IsD H1 a/\ty σ H1 fun y H2=>tx σ H2 fun z H3=>∃ o,DGet H3 a y o/\Q (o.getD z) H3
def tDPop1 (td ty:TE):TE:=fun σ H Q=>td σ H fun x H1=>∃ a,x = .ref a/\IsD H1 a/\ty σ H1 fun y H2=>∃ kvs k v,H2 a=some (.dK kvs)/\y=kV k/\valV kvs k=some v/\Q v (upd H2 a (.dK (dropK kvs k)))
section
variable {X:Cx} {o e f:Expr} {apos cpos:Pos} {td ty tx:TE}
theorem zga (ho:PE X o td) (he:PE X e ty) (m:M1 X o "pop" apos e cpos):PE X (.Call (.Attribute o "pop" apos) [e] [] cpos) (tDPop1 td ty):=by
 intro pins s σ H Q I h
 refine wpAny_Call_method m.base m.few m.line PySem.F.plainAttrs_dict PySem.F.slot_dict_pop PySem.F.type_dict_pop (thn (ho pins s σ H _ I h) fun u s1 ⟨x,H1,I1,rx,a,ex,d,q1⟩=>?_)
 subst ex
 obtain rfl:u=Value.ref a:=rx
 obtain ⟨t1,t2,_⟩:=zph I1 d
 refine ⟨t1,t2,?_⟩
 rw [m.trees]
 refine Calls.callWith_builtin rfl (Calls.evalArgs_plain (Calls.spliced_cons (thn (he pins s1 σ H1 _ I1 q1) fun iv s2 ⟨y,H2,I2,ry,kvs,k,v,ea,ey,l,q2⟩=>Calls.spliced_nil ?_)))
 subst ey
 exact d_pop I2 ea ry l (.inl rfl) fun w' s3 I3 rw'=>⟨v,_,I3,rw',q2⟩
end
section
variable {X:Cx} {pins:List (Addr×Obj)} {σ:St} {H:Hp} {s:Shared} {a:Addr} {kvs:List (Key×V)} {A:Around} {E:Value->Shared->Prop}
end
section
variable {X:Cx} {pins:List (Addr×Obj)} {σ:St} {H:Hp} {s:Shared} {a:Addr} {y:V} {u:Value} {A:Around} {E:Value->Shared->Prop}
end
end L2
namespace L2
open PySem PySem.Spec PyProof.Rows
section
variable {X:Cx}
theorem zsf:CallR X (.builtin "len") (fun xs H Q=>∃ a kvs,xs = [V.ref a]/\H a=some (.dK kvs)/\Q (.int kvs.length) H):=by
 intro pins s σ H xs us Q I r h
 obtain ⟨a,kvs,rfl,ha,q⟩:=h
 obtain ⟨u,rfl,ru⟩:=vals1 r
 cases ru
 exact d_len I (.inl ha) fun t s' I'=>⟨.int kvs.length,H,I',⟨t,rfl⟩,q⟩
end
section
variable {κ:Type} [DecidableEq κ]
end
end L2
namespace L2
open PySem PySem.Spec PyProof.Rows
def tTru (K:PySem.W.Frag) (ta:TE):TT:=fun σ H Q=>ta σ H fun x H1=>∃ k,TruV K x H1 k/\Q k H1
end L2
namespace Sw
abbrev T3:=Rat×Rat×Int
def isHd (m:Rat) (u:T3):Bool:=!decide (m<u.1) && decide (m<u.2.1)
def hds (us:List T3) (m:Rat):List T3:=us.filter (isHd m)
def Grd (D:Int) (q:Rat):Prop:=∃ n:Int,q=(n:Rat) / (D:Rat)
end Sw
namespace L2
open PySem PySem.Spec PyProof.Rows
theorem zvu {c:TT} {tb:TS} {D:Ends} {σ:St} {H:Hp} (W:Nat->St->Hp->Prop) {m0:Nat} (h0:W m0 σ H)
    (hs:∀ m σ H,W m σ H->∃ b:Bool,(∀ Q:Bool->Hp->Prop,Q b H->c σ H Q)/\(b=true->tb { D with nx:=fun σ' H'=>∃ m',m' < m/\W m' σ' H',ct:=fun σ' H'=>∃ m',m' < m/\W m' σ' H',bk:=D.nx } σ H)/\(b=false->D.nx σ H)):zqs c tb D σ H:=by
  refine ⟨W,⟨_,h0⟩,fun m σ H p=>?_⟩
  obtain ⟨b,hc,h1,h2⟩:=hs m σ H p
  refine hc _ ?_
  cases b with
  | true=>exact ⟨_,fun σ' H' z=>z,h1 rfl⟩
  | false=>exact h2 rfl
theorem zez {α β:Type} {F:α->β->Prop} {a:α} {b:β} (h:F a b):∀ {l₁:List α} {l₂:List β},Paired F l₁ l₂->Paired F (l₁++[a]) (l₂++[b])
 | _,_,Paired.nil=>.cons h .nil
 | _,_,Paired.cons x y=>.cons x (zez h y)
theorem zgb {α β:Type} {F:α->β->Prop}:∀ {l₁:List α} {l₂:List β} {i:Nat} {a:α},Paired F l₁ l₂->l₁[i]? = some a->∃ b,l₂[i]? = some b/\F a b
 | _,_,_,_,Paired.nil,e=>by simp at e
 | _,_,0,_,Paired.cons x _,e=>by simp at e; subst e; exact ⟨_,rfl,x⟩
 | _,_,i+1,_,Paired.cons _ y,e=>by
  obtain ⟨b,h1,h2⟩:=zgb (i:=i) y (by simpa using e)
  exact ⟨b,by simpa using h1,h2⟩
end L2
namespace L2
open PySem PySem.Spec PyProof.Rows
end L2
namespace Sw
open L2
end Sw
namespace L2
open PySem PySem.Spec PyProof.Rows
end L2
namespace L2
open PySem PySem.Spec PyProof.Rows
def Ite1 (K:PySem.W.Frag) (a:Addr):It :=
  ⟨fun i H=>∃ xs x,SqL K H a xs/\xs[i]? = some x,
   fun i H y H'=>∃ p x,y = .ref p/\H p=none/\(∀ xs,SqL K H a xs->xs[i]? = some x)/\H'=upd H p (.tup [.int ((i+1:Nat):Int),x]),
   fun i H=>∃ xs,SqL K H a xs/\xs.length=i⟩
section
variable {X:Cx}
def iEnum1 (K:PySem.W.Frag) (ta:TA):TI:=fun σ H R=>ta σ H fun vs H1=>∃ a,vs = [.ref a]/\(∃ xs,SqL K H1 a xs)/\R (Ite1 K a) H1
end
end L2
namespace L2
open PySem PySem.Spec PyProof.Rows
section
variable {X:Cx}
def Itv (K:PySem.W.Frag) (a:Addr) (xs:List V):It :=
 ⟨fun i H=>SqL K H a xs/\i<xs.length,fun i H x H'=>H'=H/\xs.reverse[i]? = some x,fun i H=>SqL K H a xs/\xs.length=i⟩
def iRev (K:PySem.W.Frag) (ta:TA):TI:=fun σ H R=>ta σ H fun vs H1=>∃ a xs,vs = [.ref a]/\SqL K H1 a xs/\R (Itv K a xs) H1
end
end L2
namespace L2
end L2
namespace L2
open PySem PySem.Spec PyProof.Rows
def DSd (H:Hp) (a:Addr) (y d:V) (v:V) (H':Hp):Prop:=∃ kvs k,H a=some (.dK kvs)/\y=kV k/\kvs.length<sizeLine/\((valV kvs k=some v/\H'=H)\/(valV kvs k=none/\v=d/\H'=upd H a (.dK (putK kvs k d))))
section
variable {X:Cx} {pins:List (Addr×Obj)} {σ:St} {H H':Hp} {s:Shared} {a:Addr} {y d v:V} {u r:Value} {A:Around} {E:Value->Shared->Prop}
end
def tDSd (td ty tx:TE):TE:=fun σ H Q=>td σ H fun x H1=>∃ a,x = .ref a/\IsD H1 a/\ty σ H1 fun y H2=>tx σ H2 fun z H3=>∃ v H4,DSd H3 a y z v H4/\Q v H4
section
variable {X:Cx} {o e f:Expr} {td ty tx:TE} {apos cpos:Pos}
end
end L2
namespace Sw
open L2
def ov (low high:Rat) (u:T3):Rat:=if u.2.1<=low then 0 else if high<=u.1 then 0 else (if u.2.1<=high then u.2.1 else high)-(if low<=u.1 then u.1 else low)
end Sw
namespace Sw
open L2
end Sw
namespace Sw
open L2
end Sw
namespace L2
open PySem PySem.Spec PyProof.Rows
section
variable {X:Cx}
end
abbrev D2:=Int×Int
def d2 (g:D2):List V:=[.int g.1,.int g.2]
abbrev Duos (H:Hp):List Addr->List D2->Prop:=Paired fun p g=>H p=some (.tup (d2 g))
theorem Duos.len {H:Hp} {ps:List Addr} {gs:List D2} (h:Duos H ps gs):ps.length=gs.length:=Paired.length h
theorem Duos.keep {H H':Hp} {ps:List Addr} {gs:List D2} (h:Duos H ps gs) (e:∀ p xs,H p=some (.tup xs)->H' p=some (.tup xs)):Duos H' ps gs:=Paired.mapP h fun _ _ q=>e _ _ q
theorem Duos.same {H H':Hp} {ps:List Addr} {gs:List D2} (h:Duos H ps gs) (e:Same H H'):Duos H' ps gs:=h.keep fun _ _ q=>e _ _ q
theorem Duos.get {H:Hp}:∀ {ps:List Addr} {gs:List D2} {i:Nat} {p:Addr},Duos H ps gs->ps[i]? = some p->∃ q,gs[i]? = some q/\H p=some (.tup (d2 q))
 | _,_,_,_,Paired.nil,e=>by simp at e
 | _,_,0,_,Paired.cons a _,e=>by simp at e; subst e; exact ⟨_,rfl,a⟩
 | _,_,i+1,_,Paired.cons _ b,e=>by
  obtain ⟨q,h1,h2⟩:=Duos.get (i:=i) b (by simpa using e)
  exact ⟨q,by simpa using h1,h2⟩
structure Gos (H:Hp) (l:Addr) (ps:List Addr) (gs:List D2):Prop where
 hl:H l=some (.lst (ps.map V.ref))
 r:Duos H ps gs
theorem Gos.same {H H':Hp} {l:Addr} {ps:List Addr} {gs:List D2} (R:Gos H l ps gs) (e:Same H H'):Gos H' l ps gs:=⟨e _ _ R.hl,R.r.same e⟩
end L2
namespace Sw
open L2
end Sw
namespace L2
open PySem PySem.Spec PyProof.Rows
end L2
namespace L2
open PySem PySem.Spec PyProof.Rows
section
variable {X:Cx}
end
end L2
namespace L2
open PySem PySem.Spec PyProof.Rows
theorem kV_of {P:Program} {w:World} {k:Key} {u:Value} (h:(zax P w).is k u=true):RelV (kV k) u:=by
 rcases zcd h with ⟨i,t,rfl,rfl⟩ | ⟨x,t,rfl,rfl⟩
 ·exact ⟨t,rfl⟩
 ·exact ⟨t,rfl⟩
theorem zmq {P:Program} {w:World}:∀ {kvs:List (Key×V)} {vs:List (Key×Value)} {us:List Value},KV kvs vs->us.length=vs.length->(∀ (j:Nat) (v:Value),us[j]? = some v->∃ k x,vs[j]? = some (k,x)/\(zax P w).is k v=true)->Vals (kvs.map fun kv=>kV kv.1) us
 | _,_,[],Paired.nil,_,_=>.nil
 | _,_,_ :: _,Paired.nil,e,_=>by cases e
 | _,_,[],Paired.cons _ _,e,_=>by cases e
 | _,_,u :: us,Paired.cons (a:=p) (b:=q) h t,e,hj=>by
  obtain ⟨k,x,h1,h2⟩:=hj 0 u rfl
  have h1:q=(k,x):=by simpa using h1
  subst h1
  have e1:p.1=k:=h.1
  refine .cons ?_ (zmq t (by simpa using e) fun j v hv=>hj (j+1) v (by simpa using hv))
  show RelV (kV p.1) u
  rw [e1]
  exact kV_of h2
def rLstD:List V->Hp->VK->Prop:=fun xs H Q=>∃ a kvs,xs = [.ref a]/\H a=some (.dK kvs)/\∀ l,H l=none->Q (.ref l) (upd H l (.lst (kvs.map fun kv=>kV kv.1)))
section
variable {X:Cx}
theorem zgc (hc:X.calm=true):CallR X (.type "list") rLstD:=by
 intro pins s σ H xs us Q I r h
 obtain ⟨a,kvs,rfl,ha,q⟩:=h
 obtain ⟨u,rfl,ru⟩:=r.one
 cases ru
 obtain ⟨z,hd,vs,rel,o,es,ep,d1⟩:=dk_of I.hok ha
 refine PySem.W.kdl_call (PySem.W.kdl_dict (knd:=zax X.prog X.w) (kvs:=vs) (ep:=ep) hd) (I.ok.hd hc) ⟨o,es,d1⟩ (by rw [<- rel.length]; exact z) fun h' tk acc c hk hD it=>?_
 have hv:Vals (kvs.map fun kv=>kV kv.1) acc.toList:=zmq rel (by rw [Array.length_toList]; exact it.1) fun j v e=>it.2 j v (by rw [<- Array.getElem?_toList]; exact e)
 have new:ObjOk X.prog X.w (upd H s.heap.objs.size (.lst (kvs.map fun kv=>kV kv.1))) h' s.heap.objs.size (.lst (kvs.map fun kv=>kV kv.1)):=⟨by rw [List.length_map]; exact z,acc.toList,c,hv,by rw [Array.toArray_toList]; exact hD⟩
 exact ⟨.ref s.heap.objs.size,_,I.laid hk (Nat.le_refl _) new,rfl,q _ I.fresh⟩
end
end L2
namespace L2
open PySem PySem.Spec PyProof.Rows
section
variable {X:Cx} {pins:List (Addr×Obj)} {σ:St} {H:Hp} {s:Shared} {a:Addr} {kvs:List (Key×V)} {o:Obj}
theorem Inv.frozen (I:Inv X pins σ H s) (h:H a=some (.dK kvs)) (ho:s.heap.get? a=some o):Inv X pins σ (upd H a (.frz o (.dK kvs))) s:=by
 have ne:∀ b,H b=none->b≠a:=fun b n z=>by rw [z,h] at n; cases n
 have nt:∀ b u,H b=some u->(∀ k,u≠.dK k)->b≠a:=fun b u e n z=>by rw [z,h] at e; cases e; exact n _ rfl
 have up:∀ b u,H b=some u->(∀ k,u≠.dK k)->upd H a (.frz o (.dK kvs)) b=some u:=fun b u e n=>by rw [zah (nt b u e n)]; exact e
 have hok:HOk X.prog X.w (upd H a (.frz o (.dK kvs))) s.heap:=fun b ob e=>by
  by_cases hb:b=a
  ·subst hb
   rw [zab] at e
   cases e
   exact ⟨ho,(I.hok b _ h).stay (fun _ _ _ q=>q) (fun c q=>up c _ q (by intro k z; cases z)) fun c xs q=>up c _ q (by intro k z; cases z)⟩
  ·rw [zah hb] at e
   exact (I.hok b _ e).stay (fun _ _ _ q=>q) (fun c q=>up c _ q (by intro k z; cases z)) fun c xs q=>up c _ q (by intro k z; cases z)
 exact I.step (g':=s.gens) (d':=s.drawn) (t':=s.toks) (ch:=[]) (fun _ z=>nomatch z) (fun b o' _ _ _ e _=>e) (fun b o' _ _ _ e _=>⟨o'.slots,e⟩) (fun b o' _ _ n=>by rw [zah (ne b n)]; exact n) (fun b o' _ e=>⟨o',e⟩)
  (fun b xs q=>up b _ q (by intro k z; cases z)) (fun b o' u q=>up b _ q (by intro k z; cases z)) (fun b ps q=>⟨#[],by rw [up b _ q (by intro k z; cases z)]; simp⟩) (fun m q=>q) hok I.bare
theorem Inv.thawed (I:Inv X pins σ H s) (h:H a=some (.frz o (.dK kvs))) (n0:∀ o u,X.H₀ a≠some (.frz o u)):Inv X pins σ (upd H a (.dK kvs)) s:=by
 have ne:∀ b,H b=none->b≠a:=fun b n z=>by rw [z,h] at n; cases n
 have un:∀ b,H b=none->upd H a (.dK kvs) b=none:=fun b n=>by rw [zah (ne b n)]; exact n
 have nt:∀ b u,H b=some u->(∀ k v,u≠.frz k v)->upd H a (.dK kvs) b=some u:=fun b u e n=>by
  have:b≠a:=fun z=>by rw [z,h] at e; cases e; exact n _ _ rfl
  rw [zah this]; exact e
 have hok:HOk X.prog X.w (upd H a (.dK kvs)) s.heap:=fun b ob e=>by
  by_cases hb:b=a
  ·subst hb
   rw [zab] at e
   cases e
   exact (I.hok b _ h).2.stay (fun _ _ _ q=>q) (fun c q=>nt c _ q (by intro k v z; cases z)) fun c xs q=>nt c _ q (by intro k v z; cases z)
  ·rw [zah hb] at e
   exact (I.hok b _ e).stay (fun _ _ _ q=>q) (fun c q=>nt c _ q (by intro k v z; cases z)) fun c xs q=>nt c _ q (by intro k v z; cases z)
 refine ⟨I.ok,I.os,I.bare,⟨I.base.keep,I.base.slot,fun b o' e n hx=>un b (I.base.free b o' e n hx),I.base.there,fun b xs q=>nt b _ (I.base.tups b xs q) (by intro k v z; cases z),fun b o' u q=>?_,fun b ps q=>?_⟩,I.loc,I.cell,un _ I.free,fun x c e=>un _ (I.freeC x c e),fun p hp=>?_,hok,I.len⟩
 ·have hb:b≠a:=fun z=>n0 o' u (by rw [<- z]; exact q)
  rw [zah hb]
  exact I.base.frzs b o' u q
 ·obtain ⟨m,e⟩:=I.base.tbls b ps q
  exact ⟨m,nt b _ e (by intro k v z; cases z)⟩
 ·obtain ⟨e,n,r⟩:=I.pin p hp
  exact ⟨e,un _ n,r⟩
end
def Itd (a:Addr) (o:Obj) (kvs:List (Key×V)):It :=
 ⟨fun i H=>i<kvs.length/\H a=some (.frz o (.dK kvs)),fun i H x H'=>H'=H/\∃ kv,kvs[i]? = some kv/\x=kV kv.1,fun i H=>kvs.length<=i/\H a=some (.frz o (.dK kvs))⟩
theorem zsg {P:Program} {w:World} {K:PySem.W.Frag} {tg:Expr} (a it:Addr) {o:Obj} {kvs:List (Key×V)} {vs:List (Key×Value)} {es:Array DictEntry} {ep:Nat} (rel:KV kvs vs)
    (ho:o.ExactDict/\o.data = .dict es ep/\KeysOf (zax P w) es/\Pairs (zax P w) es.toList vs/\(vs.map (·.1)).Nodup):Turn P w K tg (Itd a o kvs) [it] it (fun i h=>h.IsKeyIter it a i vs.length ep) where
  mem:=by simp
  obj:=fun i h st b hb=>by
    have e:b=it:=by simpa using hb
    subst e
    obtain ⟨o,e,c,d⟩:=st
    exact ⟨o,e,fun v z=>by rw [d] at z; cases z⟩
  keep:=fun i h h' st k=>by
    obtain ⟨o,e,c⟩:=st
    exact ⟨o,k it (by simp) o e,c⟩
  item:=by
    intro X hP hw hK hc i pins s σ H E I hf st hg
    subst hP hw hK
    obtain ⟨hi,hz⟩:=hg
    obtain ⟨f0,f1,f2,f3,f4,f5⟩:=hf it (by simp)
    have hkv:kvs[i]? = some (kvs[i]'hi):=List.getElem?_eq_getElem _
    have hi':i<vs.length:=by rw [<- rel.length]; exact hi
    have hv:vs[i]? = some (vs[i]'hi'):=List.getElem?_eq_getElem _
    have hk:(kvs[i]'hi).1=(vs[i]'hi').1:=by
      have:=rel.keys
      have e1:(kvs.map (·.1))[i]? = some (kvs[i]'hi).1:=by rw [List.getElem?_map,hkv]; rfl
      have e2:(vs.map (·.1))[i]? = some (vs[i]'hi').1:=by rw [List.getElem?_map,hv]; rfl
      rw [this,e2] at e1
      exact (Option.some.inj e1).symm
    have da:s.heap.DictAt (zax X.prog X.w) a vs ep:=⟨o,es,(I.hok a _ hz).1,ho⟩
    refine wpAny_pyNext_dict_item (v:=(vs[i]'hi').2) st da hv fun key h' hkey st' sb=>?_
    have I1:Inv X pins σ H { s with heap:=h' }:=I.turned (t':=s.toks) (fun b o hb e=>(sb.2 b hb).trans e) f0 f1 f3 f4 f5
    obtain ⟨oi,e,c,d⟩:=id st'
    exact ⟨key,rfl,go_of (s:={ s with heap:=h' }) e c d (by decide) ⟨kV (kvs[i]'hi).1,H,I1,by rw [hk]; exact kV_of hkey,⟨rfl,_,hkv,rfl⟩,st',fun b hb=>(hf b hb).1⟩⟩
  done:=by
    intro X hP hw hK hc i pins s σ H E I hf st hg
    subst hP hw hK
    obtain ⟨hi,hz⟩:=hg
    obtain ⟨f0,f1,f2,f3,f4,f5⟩:=hf it (by simp)
    have da:s.heap.DictAt (zax X.prog X.w) a vs ep:=⟨o,es,(I.hok a _ hz).1,ho⟩
    exact wpAny_pyNext_dict_end (I.ok.hd hc) st da (List.getElem?_eq_none (by rw [<- rel.length]; exact hi)) fun h' eb=>⟨rfl,I.turned (t':=s.toks) (fun b o hb e=>eb b o hb e) f0 f1 f3 f4 f5⟩
  self:=fun _ _ _ _ _ st h=>wpAny_pyIter_keyiter st h
def tForD (tl:TE) (g:TG) (tb:TS):TS:=fun D σ H=>tl σ H fun x H1=>∃ a kvs,x = .ref a/\H1 a=some (.dK kvs)/\∀ o,∃ W:Nat->Nat->St->Hp->Prop,(∃ m,W 0 m σ (upd H1 a (.frz o (.dK kvs))))/\∀ i m σ H,W i m σ H ->
 H a=some (.frz o (.dK kvs))/\((kvs.length<=i/\D.nx σ (upd H a (.dK kvs)))\/(∃ kv,kvs[i]? = some kv/\∃ N:St->Hp->Prop,(∀ σ' H',N σ' H'->∃ m',m' < m/\W (i+1) m' σ' H')/\g (kV kv.1) σ H fun σ2 H2=>tb { D with nx:=N,ct:=N,bk:=fun _ _=>False } σ2 H2))
section
variable {X:Cx} {tg:Expr}
theorem zvv {iter:Expr} {body:List Stmt} {tl:TE} {g:TG} {tb:TS} {pos:Pos} (hp:PassesOwn (model X.prog X.w) X.A X.env X.xe) (hc:X.calm=true) (hl:PE X iter tl) (hg:PG X tg g) (hb:PSs X body tb)
    (hs:∀ x,foldedSetIterable iter X.env x=pure x:=by intro _; rfl):PS X (.For tg iter body [] pos) (tForD tl g tb):=by
  intro pins s σ H D I h
  refine wpAny_For (thn (hl pins s σ H _ I h) fun v s1 ⟨x,H1,I1,r1,a,kvs,ex,ha,hall⟩=>?_) hs
  subst ex
  obtain rfl:v=Value.ref a:=r1
  obtain ⟨z,hd,vs,rel,o,es,ep,ho,hx⟩:=dk_of I1.hok ha
  refine wpAny_pyIter_dict (knd:=zax X.prog X.w) hd ⟨o,es,ho,hx⟩ ?_
  obtain ⟨W,⟨m0,w0⟩,turn⟩:=hall o
  have n0:∀ o u,X.H₀ a≠some (.frz o u):=fun o' u e=>by
    have:=I1.base.frzs a o' u e
    rw [ha] at this
    cases this
  have fresh:H1 s1.heap.objs.size=none:=I1.hok.fresh (Nat.le_refl _)
  have fp1:=I1.fpOk (Nat.le_refl _) fresh
  have na:s1.heap.objs.size≠a:=fun y=>by rw [y,ha] at fresh; cases fresh
  have I2:Inv X pins σ (upd H1 a (.frz o (.dK kvs))) { s1 with heap:=s1.heap.push { cls:=.type "dict_keyiterator", data:=.fields #[.ref a,.int 0 0,.int vs.length 0,.int ep 0] } } :=
    (I1.kept (t':=s1.toks) fun b o e=>Heap.get?_push_of_some _ e).frozen ha (Heap.get?_push_of_some _ ho)
  have T:Turn X.prog X.w X.K tg (Itd a o kvs) [s1.heap.objs.size] s1.heap.objs.size (fun i h=>h.IsKeyIter s1.heap.objs.size a i vs.length ep):=zsg a _ rel hx
  have stat:∀ {H':Hp},H' s1.heap.objs.size=none->∀ b∈[s1.heap.objs.size],FpOk X pins H' b:=fun hn b hb=>by
    have e:b=s1.heap.objs.size:=by simpa using hb
    subst e
    exact ⟨hn,fp1.2⟩
  refine codeAny_forLoop_any (fun n s'=>∃ i σ' H',Inv X pins σ' H' s'/\s'.heap.IsKeyIter s1.heap.objs.size a i vs.length ep/\H' s1.heap.objs.size=none/\W i n σ' H') ?_ m0 ⟨0,σ,_,I2,⟨_,Heap.get?_push_size _ rfl,rfl,rfl⟩,by rw [zah na]; exact fresh,w0⟩
  rintro n s3 ⟨i,σ3,H3,I3,st3,fr3,w3⟩
  obtain ⟨hz,cs⟩:=turn i n σ3 H3 w3
  rcases cs with ⟨stop,qn⟩ | ⟨kv,hkv,N,hN,step⟩
  · refine wpAny_passesOwn hp (thn (T.done X rfl rfl rfl hc i pins s3 σ3 H3 X.xe I3 (stat fr3) st3 ⟨stop,hz⟩) fun r s4 ⟨hr,I4⟩=>?_)
    subst hr
    exact wpAny_execs_nil ⟨σ3,_,I4.thawed hz n0,qn⟩
  · refine wpAny_passesOwn hp (thn (T.item X rfl rfl rfl hc i pins s3 σ3 H3 X.xe I3 (stat fr3) st3 ⟨(List.getElem?_eq_some_iff.mp hkv).1,hz⟩) fun r s4 ⟨u,hr,h4⟩=>?_)
    subst hr
    refine wpAny_passesOwn hp (thn h4 fun _ s5 ⟨x,H5,I5,r5,⟨eH,kv',hkv',ex⟩,st5,fr5⟩=>?_)
    subst eH
    rw [hkv] at hkv'
    cases hkv'
    subst ex
    have I5':=I5.pinned (stat (fr5 _ (by simp))) (T.obj _ _ st5)
    refine wpAny_passesOwn hp (thn (hg _ s5 σ3 H5 _ u _ I5' r5 step) fun _ s6 ⟨σ6,H6,I6,q6⟩=>?_)
    refine wpAny_passesOwn hp (thn (hb _ s6 σ6 H6 _ I6 q6) fun f s7 q7=>?_)
    have again:∀ {σ7:St} {H7:Hp},Inv X (pins++zik [s1.heap.objs.size] s5.heap) σ7 H7 s7->N σ7 H7->∃ m,m<n/\∃ i σ' H',Inv X pins σ' H' s7/\s7.heap.IsKeyIter s1.heap.objs.size a i vs.length ep/\H' s1.heap.objs.size=none/\W i m σ' H':=fun {σ7 H7} I7 n7=>by
      obtain ⟨m',hm,w7⟩:=hN σ7 H7 n7
      refine ⟨m',hm,i+1,σ7,H7,I7.unpinned,T.keep _ _ _ st5 fun b hb o e=>(I7.pin (b,o) (List.mem_append_right _ (List.mem_append_right _ (zdv hb e)))).1,?_,w7⟩
      obtain ⟨o,e,d⟩:=T.obj _ _ st5 s1.heap.objs.size (by simp)
      exact (I7.pin (_,o) (List.mem_append_right _ (List.mem_append_right _ (zdv (by simp) e)))).2.1
    cases f with
    | next=>obtain ⟨σ7,H7,I7,n7⟩:=q7; exact again I7 n7
    | cont=>obtain ⟨σ7,H7,I7,n7⟩:=q7; exact again I7 n7
    | brk=>obtain ⟨σ7,H7,I7,q7⟩:=q7; exact False.elim q7
    | ret v=>obtain ⟨x7,σ7,H7,I7,r7,q7⟩:=q7; exact ⟨x7,σ7,H7,I7.unpinned,r7,q7⟩
end
theorem ztp {a:Addr} {kvs:List (Key×V)} {o:Obj} {g:TG} {tb:TS} {D:Ends} {σ:St} {H:Hp} (Pv:Nat->St->Hp->Prop) (h0:Pv 0 σ H) (hz:∀ i σ H,i<=kvs.length->Pv i σ H->H a=some (.frz o (.dK kvs)))
    (hs:∀ i kv σ H,kvs[i]? = some kv->Pv i σ H->g (kV kv.1) σ H fun σ2 H2=>tb { D with nx:=Pv (i+1),ct:=Pv (i+1),bk:=fun _ _=>False } σ2 H2) (hd:∀ σ H,Pv kvs.length σ H->D.nx σ (upd H a (.dK kvs))) :
    ∃ W:Nat->Nat->St->Hp->Prop,(∃ m,W 0 m σ H)/\∀ i m σ H,W i m σ H ->
      H a=some (.frz o (.dK kvs))/\((kvs.length<=i/\D.nx σ (upd H a (.dK kvs)))\/(∃ kv,kvs[i]? = some kv/\∃ N:St->Hp->Prop,(∀ σ' H',N σ' H'->∃ m',m' < m/\W (i+1) m' σ' H')/\g (kV kv.1) σ H fun σ2 H2=>tb { D with nx:=N,ct:=N,bk:=fun _ _=>False } σ2 H2)):=by
  refine ⟨fun i m σ H=>m=kvs.length-i/\i<=kvs.length/\Pv i σ H,⟨kvs.length,by simp,Nat.zero_le _,h0⟩,?_⟩
  rintro i m σ H ⟨rfl,hi,p⟩
  refine ⟨hz i σ H hi p,?_⟩
  by_cases hlt:i<kvs.length
  · exact .inr ⟨kvs[i],by simp [hlt],Pv (i+1),fun σ' H' p'=>⟨kvs.length-(i+1),by omega,rfl,hlt,p'⟩,hs i _ σ H (by simp [hlt]) p⟩
  · have e:i=kvs.length:=by omega
    subst e
    exact .inl ⟨Nat.le_refl _,hd σ H p⟩
end L2
namespace L2
open PySem PySem.Spec PyProof.Rows
structure ClsFn (K:PySem.W.Frag) (C:Addr) (m:Str) (f:Addr):Prop where
 mc:∃ mc,PySem.W.readsIn K C mc=true/\PySem.W.findCls K (.ref C) mc m=some (.val (.ref f))
 ga:PySem.W.specialIn K (.ref C) "__getattribute__" = some (some (.builtin "type.__getattribute__"))
 kp:PySem.W.keepIn K (.ref f)=true
structure SrcU (K:PySem.W.Frag) (C:Addr) (m qual:Str) (st:Stmt) (ps:List Str):Prop where
 ex:∃ (f:Addr) (fd:FuncData),FunE K m qual st f fd/\ClsFn K C m f/\BindsV K fd ps []
structure UpD (P:Program) (w:World) (K:PySem.W.Frag) (mg:Str->Option Value) (base:Heap) (CX:CXT) (k:Nat) (C:Addr) (m:Str) (ps:List Str) (sp:Sp):Prop where
 ex:∃ (f:Addr) (fd:FuncData),FnOk P w K mg base CX k f fd ps sp/\ClsFn K C m f/\BindsV K fd ps []
section
variable {P:Program} {w:World} {K:PySem.W.Frag} {mg:Str->Option Value} {base:Heap} {CX:CXT} {C:Addr} {m qual:Str} {st:Stmt} {N ps:List Str} {k:Nat} {sp:Sp}
theorem SrcU.okN (F:SrcU K C m qual st ps) (S:FnScope N ps (zac st)) (len:∀ vs H Q E,sp vs H Q E->vs.length=ps.length)
    (hbody:∀ (f:Addr) (cdv:Value) (A:Around) (outer:List Env) (s:Shared) (H:Hp) (vs:List V) (Q:VK) (E:XK),Room k (A.deeper (envOfC qual (zac st) s.heap.objs.size f cdv))->sp vs H Q E ->
      ∃ t,PSs (cxOf CX P w K mg base N qual (zac st) f cdv A outer s H E).nox (zal st) t/\t { nx:=fun _ H'=>Q .non H',rt:=Q } (start N vs) H):UpD P w K mg base CX (k+1) C m ps sp:=by
  obtain ⟨f,fd,F,me,b⟩:=F.ex
  obtain ⟨oc,od,dV,kV,doc,pm,an,cdv,ct,osl,rfl,lk,hcd⟩:=F.ex
  exact ⟨f,_,fn_of lk hcd S len fun A outer s H vs Q E hr hsp=>by
    obtain ⟨t,h,q⟩:=hbody f cdv A outer s H vs Q E hr hsp
    exact ⟨t,h.nox,q⟩,me,b⟩
end
def tClsX (sp:Sp) (Ek:XH) (t:TA):TE:=fun σ H Q=>t σ H fun vs H1=>sp vs H1 Q (fun v d H'=>Ek v d σ H')
section
variable {X:Cx} {CX:CXT} {k:Nat} {C:Addr} {ps:List Str} {sp:Sp} {Ek:XH} {x m:Str} {p pos apos:Pos} {e:Expr} {es:List Expr} {t:TA}
theorem zsh {pl:Sem Bool} (D:UpD X.prog X.w X.K X.mg X.base CX k C m ps sp) (hr:Room k X.A) (hx:zex CX X Ek) (hg:Gl X x) (hm:X.mg x=some (.ref C)) (ha:PA X (e :: es) t)
    (hdb:(x == ("__debug__" : Str))=false:=by decide) (hst:starEach (e :: es) X.env=(false,eval e X.env) :: starEach es X.env:=by rfl) (hpl:(backTo pos (starEach es X.env)).any (·.1)=false:=by rfl)
    (ht:eval (.Call (.Attribute (.Name x p) m apos) (e :: es) [] pos) X.env=(do
      let ov <- eval (.Name x p) X.env
      standAt apos.atName
      let (f,first) <- holding [ov] (getMethod ov m pl)
      callWith pos f first (backTo pos (starEach (e :: es) X.env)) (backToKw pos (keywordEach [] X.env))):=by rfl) :
    PE X (.Call (.Attribute (.Name x p) m apos) (e :: es) [] pos) (tClsX sp Ek t):=by
  obtain ⟨f,fd,F,cf,hb⟩:=D.ex
  obtain ⟨mc,h1,h2⟩:=cf.mc
  intro pins s σ H Q I h
  refine PySem.W.methodCall_KW (pl:=pl) (zgq I hg hm ?_ hdb) ht
  refine PySem.W.method_cls I.kIn cf.ga (PySem.W.cls_value I.kIn h1 h2 rfl ?_)
  have I1:=I.tok (s.toks+1)
  refine PySem.W.callWith_K (first:=[]) (h₀:=X.base) I.ok.mod.kin cf.kp (thn (ha pos pins _ σ H _ I1 h) fun us s2 ⟨vs,H2,I2,r,q2⟩=>⟨I2.kIn,?_⟩) hst hpl
  exact znw (dvs:=[]) F hr hb hx I2 r (by rw [List.append_nil]; exact q2)
end
end L2
namespace L2
open PySem PySem.Spec PyProof.Rows
section
variable {X:Cx}
theorem zxx (K:PySem.W.Frag) (h:X.K=K):OpR X (compareOp .In) (rIn K false):=h ▸ zrh
theorem zmr (K:PySem.W.Frag) (h:X.K=K):OpR X (compareOp .NotIn) (rIn K true):=h ▸ zlz
end
abbrev Nm:=List (Str×Int)
def kvsOf (nm:Nm):List (Key×V):=nm.map fun x=>((Sum.inr x.1:Key),V.int x.2)
def shOf (nm:Nm) (x:Str):Option Int:=(nm.find? fun p=>decide (p.1=x)).map (·.2)
def dropN (nm:Nm) (x:Str):Nm:=nm.filter fun p=>decide (p.1≠x)
theorem zms (nm:Nm):(kvsOf nm).length=nm.length:=List.length_map _
theorem ziz (nm:Nm) (x:Str):valV (kvsOf nm) (Sum.inr x:Key)=(shOf nm x).map V.int:=by
 induction nm with
 | nil=>rfl
 | cons p r ih =>
  unfold valV kvsOf shOf at ih ⊢
  rw [List.map_cons,List.find?_cons,List.find?_cons]
  by_cases h:p.1=x
  ·simp [h]
  ·have h2:¬ (Sum.inr p.1:Key)=Sum.inr x:=fun z=>h (Sum.inr.inj z)
   simp only [decide_eq_false h,decide_eq_false h2]
   exact ih
theorem zpi {nm:Nm} {x:Str} {s:Int} (h:shOf nm x=none):putK (kvsOf nm) (Sum.inr x:Key) (.int s)=kvsOf (nm++[(x,s)]):=by
 unfold putK
 have e:((kvsOf nm).any fun kv=>decide (kv.1=(Sum.inr x:Key)))=false:=by
  rw [zfk,ziz,h]; rfl
 rw [e,if_neg (by decide)]
 unfold kvsOf
 rw [List.map_append]; rfl
theorem zpj (nm:Nm) (x:Str):dropK (kvsOf nm) (Sum.inr x:Key)=kvsOf (dropN nm x):=by
 unfold dropK kvsOf dropN
 rw [List.filter_map]
 congr 1
 refine List.filter_congr fun p _=>?_
 simp [Function.comp_def]
theorem zhm {nm:Nm} {x y:Str} {s:Int} (h:shOf nm x=none):shOf (nm++[(x,s)]) y=if y=x then some s else shOf nm y:=by
 unfold shOf at h ⊢
 rw [List.find?_append]
 by_cases hy:y=x
 ·subst hy
  rw [if_pos rfl]
  cases q:nm.find? fun p=>decide (p.1=y) with
  | none=>simp
  | some v=>rw [q] at h; cases h
 ·rw [if_neg hy]
  have e:([(x,s)]:Nm).find? (fun p=>decide (p.1=y))=none:=by
   have:¬ x=y:=fun z=>hy z.symm
   simp [this]
  rw [e]; simp
theorem zfp {nm:Nm} {x y:Str}:shOf (dropN nm x) y=if y=x then none else shOf nm y:=by
 induction nm with
 | nil=>unfold shOf dropN; simp
 | cons p r ih =>
  unfold shOf dropN at ih ⊢
  rw [List.filter_cons,List.find?_cons]
  by_cases hp:p.1=x
  ·rw [if_neg (by simp [hp]),ih]
   by_cases hy:y=x
   ·rw [if_pos hy,if_pos hy]
   ·rw [if_neg hy,if_neg hy]
    have:¬ p.1=y:=fun z=>hy (z.symm.trans hp)
    simp [this]
  ·rw [if_pos (by simp [hp]),List.find?_cons]
   by_cases hy:p.1=y
   ·have:¬ y=x:=fun z=>hp (hy.trans z)
    simp [hy,this]
   ·simp only [decide_eq_false hy]
    exact ih
theorem ztq {nm:Nm} {x:Str} {s:Int} (h:shOf nm x=some s):(x,s)∈nm:=by
 unfold shOf at h
 cases q:nm.find? fun p=>decide (p.1=x) with
 | none=>rw [q] at h; cases h
 | some v =>
  rw [q] at h
  have e1:v.2=s:=Option.some.inj h
  have e2:v.1=x:=by simpa using List.find?_some q
  have:=List.mem_of_find?_eq_some q
  rw [<- e1,<- e2]; exact this
theorem zny {nm:Nm} {x:Str} {s:Int} (h:(x,s)∈nm):shOf nm x≠none:=by
 unfold shOf
 intro z
 have z:nm.find? (fun p=>decide (p.1=x))=none:=by simpa using z
 have:=List.find?_eq_none.mp z _ h
 simp at this
structure Mb (C:Addr) (H:Hp) (p psh:Addr) (nm:Nm):Prop where
 ex:∃ dx fs,H p=some (.ins C dx fs)/\fs.lookup ("shares" : Str)=some (.ref psh)/\(∀ m:Str,¬ m = "shares" -> fs.lookup m=none)/\fs.length<900
 hs:H psh=some (.dK (kvsOf nm))
theorem Mb.same {C:Addr} {H H':Hp} {p psh:Addr} {nm:Nm} (h:Mb C H p psh nm) (s:Same H H'):Mb C H' p psh nm:=by
 obtain ⟨dx,fs,h1,h2⟩:=h.ex
 exact ⟨⟨dx,fs,s _ _ h1,h2⟩,s _ _ h.hs⟩
theorem Mb.put {C:Addr} {H:Hp} {p psh:Addr} {nm nm':Nm} (h:Mb C H p psh nm):Mb C (upd H psh (.dK (kvsOf nm'))) p psh nm':=by
 obtain ⟨dx,fs,h1,h2⟩:=h.ex
 exact ⟨⟨dx,fs,by rw [zah (ne_of h1 h.hs (by intro z; cases z))]; exact h1,h2⟩,zab⟩
end L2
namespace L2
open PySem PySem.Spec PyProof.Rows
structure RatD (H:Hp) (p:Addr) (f:Str->Option Rat) (n:Nat):Prop where
 ex:∃ kvs,H p=some (.dK kvs)/\(∀ x:Str,(f x=none/\valV kvs (Sum.inr x:Key)=none)\/∃ r q,f x=some r/\valV kvs (Sum.inr x:Key)=some (.ref q)/\H q=some (.tup (fq r)))/\kvs.length<=n
theorem RatD.keep {H H':Hp} {p:Addr} {f:Str->Option Rat} {n:Nat} (h:RatD H p f n) (e:∀ b o,b=p\/(∃ xs,H b=some (.tup xs))->H b=some o->H' b=some o):RatD H' p f n:=by
 obtain ⟨kvs,h1,h2,h3⟩:=h.ex
 refine ⟨kvs,e _ _ (.inl rfl) h1,fun x=>?_,h3⟩
 rcases h2 x with z | ⟨r,q,a,b,c⟩
 ·exact .inl z
 ·exact .inr ⟨r,q,a,b,e _ _ (.inr ⟨_,c⟩) c⟩
theorem RatD.same {H H':Hp} {p:Addr} {f:Str->Option Rat} {n:Nat} (h:RatD H p f n) (s:Same H H'):RatD H' p f n:=h.keep fun b o _ e=>s b o e
def setS (f:Str->Option Rat) (x:Str) (r:Rat):Str->Option Rat:=fun y=>if y=x then some r else f y
def delS (f:Str->Option Rat) (x:Str):Str->Option Rat:=fun y=>if y=x then none else f y
theorem RatD.put {H:Hp} {p q:Addr} {f:Str->Option Rat} {n:Nat} {x:Str} {r:Rat} {kvs:List (Key×V)} (h1:H p=some (.dK kvs)) (h2:∀ x:Str,(f x=none/\valV kvs (Sum.inr x:Key)=none)\/∃ r q,f x=some r/\valV kvs (Sum.inr x:Key)=some (.ref q)/\H q=some (.tup (fq r)))
    (h3:(putK kvs (Sum.inr x:Key) (.ref q)).length<=n) (hq:H q=some (.tup (fq r))):RatD (upd H p (.dK (putK kvs (Sum.inr x:Key) (.ref q)))) p (setS f x r) n:=by
  have nt:∀ b xs,H b=some (.tup xs)->upd H p (.dK (putK kvs (Sum.inr x:Key) (.ref q))) b=some (.tup xs):=fun b xs e=>by rw [zah (ne_of e h1 (by intro z; cases z))]; exact e
  refine ⟨_,zab,fun y=>?_,h3⟩
  rw [ztn]
  unfold setS
  by_cases e:y=x
  · subst e
    rw [if_pos rfl,if_pos rfl]
    exact .inr ⟨r,q,rfl,rfl,nt _ _ hq⟩
  · rw [if_neg e,if_neg (fun z=>e (Sum.inr.inj z))]
    rcases h2 y with z | ⟨r',q',a,b,c⟩
    · exact .inl z
    · exact .inr ⟨r',q',a,b,nt _ _ c⟩
theorem zsi (kvs:List (Key×V)) (k j:Key):valV (dropK kvs k) j=if j=k then none else valV kvs j:=by
 induction kvs with
 | nil=>unfold valV dropK; simp
 | cons p r ih =>
  unfold dropK at ih ⊢
  rw [List.filter_cons]
  by_cases hp:p.1=k
  ·rw [if_neg (by simp [hp]),ih]
   by_cases hj:j=k
   ·rw [if_pos hj,if_pos hj]
   ·rw [if_neg hj,if_neg hj,zdf (fun z=>hj (z.symm.trans hp))]
  ·rw [if_pos (by simp [hp])]
   by_cases e:p.1=j
   ·have:¬ j=k:=fun z=>hp (e.trans z)
    rw [zdl e,if_neg this,zdl e]
   ·rw [zdf e,zdf e,ih]
theorem RatD.del {H:Hp} {p:Addr} {f:Str->Option Rat} {n:Nat} {x:Str} {kvs:List (Key×V)} (h1:H p=some (.dK kvs)) (h2:∀ x:Str,(f x=none/\valV kvs (Sum.inr x:Key)=none)\/∃ r q,f x=some r/\valV kvs (Sum.inr x:Key)=some (.ref q)/\H q=some (.tup (fq r)))
    (h3:(dropK kvs (Sum.inr x:Key)).length<=n):RatD (upd H p (.dK (dropK kvs (Sum.inr x:Key)))) p (delS f x) n:=by
  have nt:∀ b xs,H b=some (.tup xs)->upd H p (.dK (dropK kvs (Sum.inr x:Key))) b=some (.tup xs):=fun b xs e=>by rw [zah (ne_of e h1 (by intro z; cases z))]; exact e
  refine ⟨_,zab,fun y=>?_,h3⟩
  rw [zsi]
  unfold delS
  by_cases e:y=x
  · subst e
    rw [if_pos rfl,if_pos rfl]
    exact .inl ⟨rfl,rfl⟩
  · rw [if_neg e,if_neg (fun z=>e (Sum.inr.inj z))]
    rcases h2 y with z | ⟨r',q',a,b,c⟩
    · exact .inl z
    · exact .inr ⟨r',q',a,b,nt _ _ c⟩
structure FS (fs:List (Str×V)) (most:Int) (pm:Addr) (ch:V) (pr pt pg:Addr):Prop where
 mo:fs.lookup ("most" : Str)=some (.int most)
 me:fs.lookup ("members" : Str)=some (.ref pm)
 ch:fs.lookup ("chosen" : Str)=some ch
 re:fs.lookup ("reached" : Str)=some (.ref pr)
 ta:fs.lookup ("tags" : Str)=some (.ref pt)
 gr:fs.lookup ("greatest_steps" : Str)=some (.ref pg)
 no:∀ m:Str,¬ m = "most" -> ¬ m = "members" -> ¬ m = "chosen" -> ¬ m = "reached" -> ¬ m = "tags" -> ¬ m = "greatest_steps" -> fs.lookup m=none
 len:fs.length<900
theorem zaj {fs:List (Str×V)} {f g:Str} {v:V} (h:¬ g=f):(putF f v fs).lookup g=fs.lookup g:=by rw [zef,if_neg h]
theorem zbt {fs:List (Str×V)} {f:Str} {v:V}:(putF f v fs).lookup f=some v:=by rw [zef,if_pos rfl]
theorem FS.mk0 (most:Int) (pm:Addr) (ch:V) (pr pt pg:Addr):FS (putF "greatest_steps" (.ref pg) (putF "tags" (.ref pt) (putF "reached" (.ref pr) (putF "chosen" ch (putF "members" (.ref pm) (putF "most" (.int most) [])))))) most pm ch pr pt pg:=by
 refine ⟨?_,?_,?_,?_,?_,?_,fun m h1 h2 h3 h4 h5 h6=>?_,?_⟩
 ·rw [zaj (by decide +kernel),zaj (by decide +kernel),zaj (by decide +kernel),zaj (by decide +kernel),zaj (by decide +kernel),zbt]
 ·rw [zaj (by decide +kernel),zaj (by decide +kernel),zaj (by decide +kernel),zaj (by decide +kernel),zbt]
 ·rw [zaj (by decide +kernel),zaj (by decide +kernel),zaj (by decide +kernel),zbt]
 ·rw [zaj (by decide +kernel),zaj (by decide +kernel),zbt]
 ·rw [zaj (by decide +kernel),zbt]
 ·rw [zbt]
 ·rw [zaj h6,zaj h5,zaj h4,zaj h3,zaj h2,zaj h1]; rfl
 ·have a1:=zan (fs:=[]) (f := "most") (v:=.int most)
  have a2:=zan (fs:=putF "most" (.int most) []) (f := "members") (v:=.ref pm)
  have a3:=zan (fs:=putF "members" (.ref pm) (putF "most" (.int most) [])) (f := "chosen") (v:=ch)
  have a4:=zan (fs:=putF "chosen" ch (putF "members" (.ref pm) (putF "most" (.int most) []))) (f := "reached") (v:=.ref pr)
  have a5:=zan (fs:=putF "reached" (.ref pr) (putF "chosen" ch (putF "members" (.ref pm) (putF "most" (.int most) [])))) (f := "tags") (v:=.ref pt)
  have a6:=zan (fs:=putF "tags" (.ref pt) (putF "reached" (.ref pr) (putF "chosen" ch (putF "members" (.ref pm) (putF "most" (.int most) []))))) (f := "greatest_steps") (v:=.ref pg)
  simp only [List.length_nil] at a1
  omega
structure At5 where
 p:Addr
 pm:Addr
 ps:Addr
 pt:Addr
 pg:Addr
structure Sx (C Cm:Addr) (H:Hp) (a:At5) (most:Int) (nm:Nm) (tg gs:Str->Option Rat) (ck:Rat) (ch:V) (N:Nat):Prop where
 ex:∃ dx fs pr,H a.p=some (.ins C dx fs)/\FS fs most a.pm ch pr a.pt a.pg/\H pr=some (.tup (fq ck))
 mb:Mb Cm H a.pm a.ps nm
 dt:RatD H a.pt tg N
 dg:RatD H a.pg gs N
 nl:nm.length<=N
 n1:a.pt≠a.pg
 n2:a.pt≠a.ps
 n3:a.pg≠a.ps
 n4:a.p≠a.pm
theorem Sx.same {C Cm:Addr} {H H':Hp} {a:At5} {most:Int} {nm:Nm} {tg gs:Str->Option Rat} {ck:Rat} {ch:V} {N:Nat} (h:Sx C Cm H a most nm tg gs ck ch N) (s:Same H H'):Sx C Cm H' a most nm tg gs ck ch N:=by
 obtain ⟨dx,fs,pr,h1,h2,h3⟩:=h.ex
 exact ⟨⟨dx,fs,pr,s _ _ h1,h2,s _ _ h3⟩,h.mb.same s,h.dt.same s,h.dg.same s,h.nl,h.n1,h.n2,h.n3,h.n4⟩
def Own (a:At5) (H H':Hp):Prop:=∀ b o,b≠a.p->b≠a.ps->b≠a.pt->b≠a.pg->H b=some o->H' b=some o
theorem Same.own {a:At5} {H H':Hp} (s:Same H H'):Own a H H':=fun b o _ _ _ _ e=>s b o e
theorem Own.trans {a:At5} {H H1 H2:Hp} (x:Own a H H1) (y:Own a H1 H2):Own a H H2:=fun b o n1 n2 n3 n4 e=>y b o n1 n2 n3 n4 (x b o n1 n2 n3 n4 e)
theorem RatD.mono {H:Hp} {p:Addr} {f:Str->Option Rat} {n n':Nat} (h:RatD H p f n) (l:n<=n'):RatD H p f n':=by
 obtain ⟨kvs,h1,h2,h3⟩:=h.ex
 exact ⟨kvs,h1,h2,by omega⟩
section
variable {C Cm:Addr} {H:Hp} {a:At5} {most:Int} {nm nm':Nm} {tg gs tg' gs':Str->Option Rat} {ck:Rat} {ch:V} {N N':Nat} {k:List (Key×V)}
theorem Sx.set_t (S:Sx C Cm H a most nm tg gs ck ch N) (le:N<=N') (d:RatD (upd H a.pt (.dK k)) a.pt tg' N'):Sx C Cm (upd H a.pt (.dK k)) a most nm tg' gs ck ch N':=by
 obtain ⟨dx,fs,pr,h1,h2,h3⟩:=S.ex
 obtain ⟨kvs,g1,_⟩:=S.dt.ex
 obtain ⟨dm,fm,m1,m2⟩:=S.mb.ex
 have kp:∀ b o,b≠a.pt->H b=some o->upd H a.pt (.dK k) b=some o:=fun b o n e=>by rw [zah n]; exact e
 refine ⟨⟨dx,fs,pr,kp _ _ (ne_of h1 g1 (by intro z; cases z)) h1,h2,kp _ _ (ne_of h3 g1 (by intro z; cases z)) h3⟩,⟨⟨dm,fm,kp _ _ (ne_of m1 g1 (by intro z; cases z)) m1,m2⟩,kp _ _ S.n2.symm S.mb.hs⟩,d,(S.dg.keep fun b o c e=>?_).mono le,by have:=S.nl; omega,S.n1,S.n2,S.n3,S.n4⟩
 rcases c with z | ⟨xs,z⟩
 ·subst z; exact kp _ _ S.n1.symm e
 ·exact kp _ _ (ne_of z g1 (by intro z; cases z)) e
theorem Sx.set_g (S:Sx C Cm H a most nm tg gs ck ch N) (le:N<=N') (d:RatD (upd H a.pg (.dK k)) a.pg gs' N'):Sx C Cm (upd H a.pg (.dK k)) a most nm tg gs' ck ch N':=by
 obtain ⟨dx,fs,pr,h1,h2,h3⟩:=S.ex
 obtain ⟨kvs,g1,_⟩:=S.dg.ex
 obtain ⟨dm,fm,m1,m2⟩:=S.mb.ex
 have kp:∀ b o,b≠a.pg->H b=some o->upd H a.pg (.dK k) b=some o:=fun b o n e=>by rw [zah n]; exact e
 refine ⟨⟨dx,fs,pr,kp _ _ (ne_of h1 g1 (by intro z; cases z)) h1,h2,kp _ _ (ne_of h3 g1 (by intro z; cases z)) h3⟩,⟨⟨dm,fm,kp _ _ (ne_of m1 g1 (by intro z; cases z)) m1,m2⟩,kp _ _ S.n3.symm S.mb.hs⟩,(S.dt.keep fun b o c e=>?_).mono le,d,by have:=S.nl; omega,S.n1,S.n2,S.n3,S.n4⟩
 rcases c with z | ⟨xs,z⟩
 ·subst z; exact kp _ _ S.n1 e
 ·exact kp _ _ (ne_of z g1 (by intro z; cases z)) e
theorem Sx.set_s (S:Sx C Cm H a most nm tg gs ck ch N) (le:N<=N') (ln:nm'.length<=N'):Sx C Cm (upd H a.ps (.dK (kvsOf nm'))) a most nm' tg gs ck ch N':=by
 obtain ⟨dx,fs,pr,h1,h2,h3⟩:=S.ex
 have g1:=S.mb.hs
 have kp:∀ b o,b≠a.ps->H b=some o->upd H a.ps (.dK (kvsOf nm')) b=some o:=fun b o n e=>by rw [zah n]; exact e
 refine ⟨⟨dx,fs,pr,kp _ _ (ne_of h1 g1 (by intro z; cases z)) h1,h2,kp _ _ (ne_of h3 g1 (by intro z; cases z)) h3⟩,S.mb.put,(S.dt.keep fun b o c e=>?_).mono le,(S.dg.keep fun b o c e=>?_).mono le,ln,S.n1,S.n2,S.n3,S.n4⟩
 ·rcases c with z | ⟨xs,z⟩
  ·subst z; exact kp _ _ S.n2 e
  ·exact kp _ _ (ne_of z g1 (by intro z; cases z)) e
 ·rcases c with z | ⟨xs,z⟩
  ·subst z; exact kp _ _ S.n3 e
  ·exact kp _ _ (ne_of z g1 (by intro z; cases z)) e
end
theorem own_t {a:At5} {H:Hp} {o:HO}:Own a H (upd H a.pt o):=fun b u n1 n2 n3 n4 e=>by rw [zah n3]; exact e
theorem own_g {a:At5} {H:Hp} {o:HO}:Own a H (upd H a.pg o):=fun b u n1 n2 n3 n4 e=>by rw [zah n4]; exact e
theorem own_s {a:At5} {H:Hp} {o:HO}:Own a H (upd H a.ps o):=fun b u n1 n2 n3 n4 e=>by rw [zah n2]; exact e
theorem own_p {a:At5} {H:Hp} {o:HO}:Own a H (upd H a.p o):=fun b u n1 n2 n3 n4 e=>by rw [zah n1]; exact e
theorem rat01:((0:Int):Rat) / ((1:Int):Rat) = 0:=by
 have z0:((0:Int):Rat) = 0:=rfl
 rw [z0]; grind
end L2
namespace L2
open PySem PySem.Spec PyProof.Rows
structure Iv (nm:Nm) (tg gs:Str->Option Rat) (ck:Rat) (D:Int) (n:Nat):Prop where
 d0:0<D
 dz:Sw.Sz (21*n+1) D
 cg:Sw.Grd D ck
 c0:0<=ck
 cB:ck<=((n*2000000:Int):Rat)
 all:∀ x s,shOf nm x=some s->1<=s/\s<=1000000/\∃ t g,tg x=some t/\gs x=some g/\Sw.Grd D t/\Sw.Grd D g/\0<=t/\0<=g/\g<=((1000000:Int):Rat)/\t<=ck+g
end L2
namespace L2
open PySem PySem.Spec PyProof.Rows
structure Hd where
 C:Addr
 i:Option Nat
 th:TS
def Hd.run (h:Hd) (e:Addr):TS:=fun D σ H=>match h.i with
 | none=>h.th D σ H
 | some i=>h.th { nx:=fun σ H=>D.nx (σ.set i none) H,rt:=D.rt,bk:=fun σ H=>D.bk (σ.set i none) H,ct:=fun σ H=>D.ct (σ.set i none) H } (σ.set i (some (.ref e))) H
def hkM (K:PySem.W.Frag):List Hd->Ends->Addr->Addr->St->Hp->Prop
 | [],_,_,_,_,_=>False
 | h :: r,D,e,C,σ,H=>(PySem.W.subIn K (.ref C) (.ref h.C)=some true/\h.run e D σ H)\/(PySem.W.subIn K (.ref C) (.ref h.C)=some false/\hkM K r D e C σ H)
def hkMs (K:PySem.W.Frag) (hs:List Hd) (D:Ends):XH:=fun v d σ H=>∃ e C,v = .ref e/\H e=some (excO e C d false)/\hkM K hs D e C σ H
def tTryM (K:PySem.W.Frag) (hs:List Hd) (tb:XH->TS):TS:=fun D σ H=>tb (hkMs K hs D) D σ H
def PHs (X:Cx) (hds:List ExceptHandler) (hs:List Hd):Prop :=
 ∀ (pins:List (Addr×Obj)) (σ1:St) (H1 H':Hp) (s2 s1:Shared) (B h2:Heap) (ea C:Addr) (dct:Option Addr) (f:Value) (D:Ends),Inv X pins σ1 H1 s2->Fly X.prog X.w B X.stack ea C dct H' s1.heap->s1.os=s2.os->AllBare s1.gens->Un (frs X.stack) [] H1 H' s2.heap s1.heap ->
  (∀ b o,s2.heap.get? b=some o->H1 b=none->b ∉ frs X.stack->B.get? b=some o)->XAt B ea (.ref C) dct (some f) h2->UpS s1.heap h2->hkM X.K hs D ea C σ1 H'->wpAny (model X.prog X.w) X.A (handleBy (.ref ea) X.env hds) (SP X pins D) X.xe { s1 with heap:=h2 }
section
variable {P:Program} {w:World} {X:Cx} {C':Addr} {x:Str} {np hpos pos:Pos} {body suite:List Stmt} {b0:Stmt} {tb:XH->TS} {th:TS} {h0:ExceptHandler} {hds:List ExceptHandler} {hs:List Hd}
theorem zsj:PHs X [] []:=fun _ _ _ _ _ _ _ _ _ _ _ _ _ _ _ _ _ _ _ _ _ q=>q.elim
theorem zgw (K:PySem.W.Frag) (hK:X.K=K) (c:XC K C') (hg:Gl X x) (hm:X.mg x=some (.ref C')) (hsu:∀ e,PSs (sufCx X e) (b0 :: suite) th) (hr:PHs X hds hs) (hdb:(x == ("__debug__" : Str))=false:=by decide) :
    PHs X (.ExceptHandler (some (.Name x np)) none (b0 :: suite) hpos :: hds) (⟨C',none,th⟩ :: hs):=by
  subst hK
  intro pins σ1 H1 H' s2 s1 B h2 ea C dct f D J F hos hbr un cv x2 u2 q
  have J2:=zrz J F hos hbr un cv x2 u2
  refine wpAny_handleBy_cons (codeAny_handlers_test (zgq (X:=sufCx X ea) (inSuf J2) hg hm ?_ hdb)) (by intro z; cases z)
  obtain ⟨oe,vs,g1,g2,_⟩:=x2.ex
  rcases q with ⟨hsub,q⟩ | ⟨hsub,q⟩
  · refine zuu J2.kIn c g1 g2 hsub (codeAny_handlers_suite ?_)
    refine znu (s:={ s1 with heap:=h2 }) x2 fun h3 x3 u3=>?_
    have J3:=zrz J F hos hbr un cv x3 (u2.trans u3)
    exact wpAny_mono (hsu ea pins _ σ1 H' D (inSuf J3) q) (fun f s4 z=>SP.unSuf J3.ok z) fun _ _ z=>False.elim z
  · exact zuu J2.kIn c g1 g2 hsub (hr pins σ1 H1 H' s2 s1 B h2 ea C dct f D J F hos hbr un cv x2 u2 q)
theorem znz (hP:X.prog=P) (hw:X.w=w) (K:PySem.W.Frag) (hK:X.K=K) (hst:X.stack=X.env :: X.outer) (hf:X.env.frame=some X.env.locals)
    (hb:∀ pins Hk,PSs (tryCx P w X pins Hk) body (tb Hk)) (hh:PHs X (h0 :: hds) hs):PS X (.Try body (h0 :: hds) [] [] pos) (tTryM K hs tb):=by
  subst hP hw hK
  intro pins s σ H D I h
  refine wpAny_Try_except (wpAny_mono (hb pins _ [] s σ H D (inTry I) h) (fun f s1 z=>?_) fun ev s1 z=>?_)
  · have z:=SP.unTry z
    cases f with
    | next=>obtain ⟨σ1,H1,I1,q⟩:=z; exact wpAny_execs_nil ⟨σ1,H1,I1,q⟩
    | brk=>exact z
    | cont=>exact z
    | ret u=>exact z
  · obtain ⟨σ1,H1,s2,J,B,ea,C,dct,H',rfl,hos,hbr,F,un,cv,e2,C2,hv,he2,q⟩:=z
    cases hv
    have eC:C2=C/\True:=by
      obtain ⟨oe,vs,g1,g2,_⟩:=F.hok.exc he2
      obtain ⟨oe',vs',g1',g2',_⟩:=F.hok.exc F.he
      rw [g1] at g1'
      cases g1'
      rw [g2] at g2'
      exact ⟨Value.ref.inj g2',trivial⟩
    obtain ⟨rfl,_⟩:=eC
    obtain ⟨fl0,hfl,x0⟩:=F.at_
    refine zrx (outer:=X.outer) (by rw [<- hst]; exact J.ok.frames) (by rw [<- hst]; exact F.ff) hf x0 hfl fun h1 x1 u1=>?_
    refine znu (s:={ s1 with heap:=h1 }) x1 fun h2 x2 u2=>?_
    exact hh pins σ1 H1 H' s2 s1 B h2 ea C2 dct _ D J F hos hbr un cv x2 (u1.trans u2) q
theorem zgx {K:PySem.W.Frag} {h:Hd} {r:List Hd} {D:Ends} {e C:Addr} {σ:St} {H:Hp} (s:PySem.W.subIn K (.ref C) (.ref h.C)=some true) (q:h.run e D σ H):hkM K (h :: r) D e C σ H:=.inl ⟨s,q⟩
theorem zja {K:PySem.W.Frag} {h:Hd} {r:List Hd} {D:Ends} {e C:Addr} {σ:St} {H:Hp} (s:PySem.W.subIn K (.ref C) (.ref h.C)=some false) (q:hkM K r D e C σ H):hkM K (h :: r) D e C σ H:=.inr ⟨s,q⟩
end
end L2
namespace L2
open PySem PySem.Spec PyProof.Rows
section
variable {X:Cx}
end
end L2
namespace L2
open PySem PySem.Spec PyProof.Rows PySem.MeetsSeq
theorem zvw (l:Addr) (items:Array Value) (n:Nat) (x:Value) (e:Nat->Bool) (j:Nat) (hj:j<items.size) (hit:e j=true) (k:Nat) (hs1:items.size<=sizeLine) :
    ∀ i:Nat,j-i=k->i<=j->(∀ m,i<=m->m<j->e m=false)->Meets (Builtin.«list.remove.loop» ⟨[.ref l,x,rawInt i],[]⟩)
      (fun A R s=>(∀ m (hm:m<items.size),m<=j->SeqAt.EqAt A.in1 s items[m] x (e m))/\s.heap.get? l=some { cls:=.type "list", dict:=none,data:=.seq items n,slots:=#[] }/\R (.ok (.ret .none)) { s with heap:=s.heap.update l (Obj.mapSeq fun xs=>xs.eraseIdxIfInBounds j) }):=by
  induction k with
  | zero =>
    intro i hk hij hno prog w A R s h
    obtain ⟨hp,g,d,tk,os⟩:=s; obtain ⟨he,hl,h⟩:=h
    have hij':i=j:=by omega
    subst hij'
    wp_walk using wpAny_loadPart' hl
    have hi:items[((i:Nat):Int).toNat]? = some items[i]:=by simp [hj]
    rw [hi]
    refine wpAny_bind (he i hj (Nat.le_refl _) prog w _ _ ?_)
    rw [hit]
    have hz':(items.eraseIdxIfInBounds i).size<=sizeLine+1:=Nat.le_trans (size_erased items _) (Nat.le_succ_of_le hs1)
    wp_walk using (wpAny_updateSeq hl rfl (hz:=hs1) (_hz':=hz')),wpAny_loadPart' hl
    simpa using h
  | succ k ih =>
    intro i hk hij hno prog w A R s h
    obtain ⟨hp,g,d,tk,os⟩:=s; obtain ⟨he,hl,h⟩:=h
    have hlt:i<items.size:=by omega
    wp_walk using wpAny_loadPart' hl
    have hi:items[((i:Nat):Int).toNat]? = some items[i]:=by simp [hlt]
    have hc:((i:Int)+1)=((i+1:Nat):Int):=by push_cast; rfl
    rw [hi]
    refine wpAny_bind (he i hlt hij prog w _ _ ?_)
    rw [hno i (Nat.le_refl _) (by omega)]
    wp_walk
    rw [hc]
    exact ⟨plainId_quiet plain_remove_loop _,codeAny_builtin entry_remove_loop (by
      rw [Around.under_plainId plain_remove_loop _]
      exact ih (i+1) (by omega) (by omega) (fun m h1 h2=>hno m (by omega) h2) prog w A R _ ⟨he,hl,h⟩)⟩
theorem ztr (l:Addr) (items:Array Value) (n:Nat) (x:Value) (e:Nat->Bool) (j:Nat) (hj:j<items.size) (hit:e j=true) (hno:∀ m,m<j->e m=false) (hs1:items.size<=sizeLine) :
    Meets (Builtin.«list.remove» ⟨[.ref l,x],[]⟩)
      (fun A R s=>(∀ m (hm:m<items.size),m<=j->SeqAt.EqAt A.in1 s items[m] x (e m))/\s.heap.get? l=some { cls:=.type "list", dict:=none,data:=.seq items n,slots:=#[] }/\R (.ok (.ret .none)) { s with heap:=s.heap.update l (Obj.mapSeq fun xs=>xs.eraseIdxIfInBounds j) }):=by
  intro prog w A R s h
  obtain ⟨hp,g,d,tk,os⟩:=s; obtain ⟨he,hl,h⟩:=h
  wp_walk using wpAny_loadPart' hl
  exact ⟨plainId_quiet plain_remove_loop _,codeAny_builtin entry_remove_loop (by
    rw [Around.under_plainId plain_remove_loop _]
    exact zvw l items n x e j hj hit _ hs1 0 rfl (Nat.zero_le _) (fun m _ h2=>hno m h2) prog w A R _ ⟨he,hl,h⟩)⟩
def zsk (K:PySem.W.Frag):V->List V->Hp->VK->Prop:=fun x vs H Q=>∃ l xs y j d ds,x = .ref l/\vs = [y]/\H l=some (.lst xs)/\xs.length<sizeLine/\j<xs.length/\Deep K H y d/\PySem.SeqAt.shaped d=true/\DeepAll K H (xs.take (j+1)) ds/\(∀ e∈ds,PySem.SeqAt.shaped e=true) /\
 ds[j]?.map (fun e=>PyData.eqv e d)=some true/\(∀ m e,m<j->ds[m]? = some e->PyData.eqv e d=false)/\Q .non (upd H l (.lst (xs.eraseIdx j)))
theorem zpk:∀ {xs:List V} {us:List Value} {m:Nat} {u:Value},Vals xs us->us[m]? = some u->∃ x,xs[m]? = some x/\RelV x u
 | _,_,0,u,.cons r _,h=>by
  have:_=u:=Option.some.inj h
  subst this
  exact ⟨_,rfl,r⟩
 | _,_,m+1,u,.cons _ t,h=>by
  obtain ⟨x,h1,h2⟩:=zpk (m:=m) t (by simpa using h)
  exact ⟨x,by simpa using h1,h2⟩
theorem zjb {K:PySem.W.Frag} {H:Hp}:∀ {xs:List V} {ds:List PyData} {m:Nat} {x:V},DeepAll K H xs ds->xs[m]? = some x->∃ d,ds[m]? = some d/\Deep K H x d
 | _,_,0,x,.cons r _,h=>by
  have:_=x:=Option.some.inj h
  subst this
  exact ⟨_,rfl,r⟩
 | _,_,m+1,x,.cons _ t,h=>by
  obtain ⟨d,h1,h2⟩:=zjb (m:=m) t (by simpa using h)
  exact ⟨d,by simpa using h1,h2⟩
theorem zko:∀ {xs:List V} {us:List Value} (j:Nat),Vals xs us->Vals (xs.eraseIdx j) (us.eraseIdx j)
 | _,_,_,.nil=>.nil
 | _,_,0,.cons _ t=>t
 | _,_,j+1,.cons r t=>.cons r (zko j t)
section
variable {X:Cx}
theorem zsl (K:PySem.W.Frag) (h:X.K=K) (hu:X.A.units+66<cLine):MtM X "list.remove" (zsk K):=by
 subst h
 intro pins s σ H x vs v us Q I rx rv h
 obtain ⟨l,xs,y,j,d,ds,rfl,rfl,hH,hz,hj,dy,sy,dx,sx,hit,hno,q⟩:=h
 cases rx
 obtain ⟨u,rfl,ru⟩:=rv.one
 obtain ⟨z,its,n,r,hl,e⟩:=I.lstM hH
 have len:=r.length
 obtain ⟨as,ra⟩:=zeg I dy ru
 have eq:∀ m (hm:m<its.toArray.size),m<=j->SeqAt.EqAt X.A.in1 s its.toArray[m] u ((ds[m]?.map fun e=>PyData.eqv e d).getD false):=fun m hm hmj=>by
  have hm2:m<its.length:=by simpa using hm
  have e1:its[m]? = some its.toArray[m]:=by rw [List.getElem?_eq_getElem hm2]; simp
  obtain ⟨x,h1,h2⟩:=zpk r e1
  have h3:(xs.take (j+1))[m]? = some x:=by rw [List.getElem?_take,if_pos (by omega)]; exact h1
  obtain ⟨e',h4,h5⟩:=zjb dx h3
  obtain ⟨bs,rb⟩:=zeg I h5 h2
  have se:=sx e' (List.mem_of_getElem? h4)
  rw [h4]
  exact SeqAt.eqAt_reads e' d X.A.in1 s _ _ bs as rb ra (PySem.SeqAt.canLay_of_shaped se) (PySem.SeqAt.canLay_of_shaped sy) (PySem.SeqAt.room_of_shaped se (by show X.A.units+1+64<cLine; omega))
 have hit':(ds[j]?.map fun e=>PyData.eqv e d).getD false=true:=by rw [hit]; rfl
 have hno':∀ m,m<j->(ds[m]?.map fun e=>PyData.eqv e d).getD false=false:=fun m hm=>by
  cases c:ds[m]? with
  | none=>rfl
  | some e=>exact hno m e hm c
 refine call_meets F.slot_list_remove ⟨_,e,rfl⟩ F.entry_list_remove (F.args_list_remove_2 _ _) (ztr l its.toArray n u (fun m=>(ds[m]?.map fun e=>PyData.eqv e d).getD false) j (by rw [List.size_toArray]; omega) hit' hno' (by rw [List.size_toArray]; omega)) ⟨eq,e,?_⟩
 refine ⟨.non,_,I.lset (its':=its.eraseIdx j) hH e ?_ (zko j r) ?_,rfl,q⟩
 ·simp [Array.eraseIdxIfInBounds]
  exact fun c=>absurd c (by omega)
 ·rw [List.length_eraseIdx]
  split <;> omega
end
end L2
namespace L2
open PySem PySem.Spec PyProof.Rows
theorem Room.units66 {k:Nat} {A:Around} (r:Room k A):A.units+66<cLine:=by have:=r.un; omega
section
variable {X:Cx}
end
end L2
namespace L2
open PySem PySem.Spec PyProof.Rows
end L2
namespace L2
open PySem PySem.Spec PyProof.Rows
def Iti (a:Addr) (o:Obj) (kvs:List (Key×V)):It :=
 ⟨fun i H=>i<kvs.length/\H a=some (.frz o (.dK kvs)),fun i H x H'=>∃ p kv,x = .ref p/\H p=none/\kvs[i]? = some kv/\H'=upd H p (.tup [kV kv.1,kv.2]),fun i H=>kvs.length<=i/\H a=some (.frz o (.dK kvs))⟩
theorem zkp {P:Program} {w:World} {K:PySem.W.Frag} {elts:List Expr} {x1} {pos:Pos} (a it:Addr) {o:Obj} {kvs:List (Key×V)} {vs:List (Key×Value)} {es:Array DictEntry} {ep:Nat} (rel:KV kvs vs)
    (ho:o.ExactDict/\o.data = .dict es ep/\KeysOf (zax P w) es/\Pairs (zax P w) es.toList vs/\(vs.map (·.1)).Nodup):Turn P w K (.Tuple elts x1 pos) (Iti a o kvs) [it] it (fun i h=>∃ ok ov,IsItemIter h it a i vs.length ep ok ov) where
  mem:=by simp
  obj:=fun i h st b hb=>by
    have e:b=it:=by simpa using hb
    subst e
    obtain ⟨ok,ov,e⟩:=st
    exact ⟨_,e,fun v z=>by cases z⟩
  keep:=fun i h h' st k=>by
    obtain ⟨ok,ov,e⟩:=st
    exact ⟨ok,ov,k it (by simp) _ e⟩
  item:=by
    intro X hP hw hK hc i pins s σ H E I hf st hg
    subst hP hw hK
    obtain ⟨hi,hz⟩:=hg
    obtain ⟨ok,ov,he⟩:=st
    obtain ⟨f0,f1,f2,f3,f4,f5⟩:=hf it (by simp)
    have hkv:kvs[i]? = some (kvs[i]'hi):=List.getElem?_eq_getElem _
    have hi':i<vs.length:=by rw [<- rel.length]; exact hi
    have hv:vs[i]? = some (vs[i]'hi'):=List.getElem?_eq_getElem _
    obtain ⟨q,hq,rq⟩:=zgb rel hkv
    rw [hv] at hq
    cases hq
    have da:s.heap.DictAt (zax X.prog X.w) a vs ep:=⟨o,es,(I.hok a _ hz).1,ho⟩
    refine wpAny_pyNext_items_item (v:=(vs[i]'hi').2) he da hv fun key h' hkey ho' hT hsz hk=>?_
    refine ⟨.ref s.heap.objs.size,rfl,wpAny_letOwnedTupleGo_items ho' fun hp2 hz2 hs2=>?_⟩
    have hs2':Heap.SameBut it h' hp2:=hs2
    have nsz:s.heap.objs.size≠it:=Nat.ne_of_gt (Heap.lt_size he)
    have htup:hp2.get? s.heap.objs.size=some { cls:=.type "tuple", data:=.seq #[key,(vs[i]'hi').2] }:=(hs2'.2 _ nsz).trans hT
    have k2:∀ c o,c ∉ [it]->s.heap.get? c=some o->hp2.get? c=some o:=fun c o n q=>by
      simp only [List.mem_cons,List.not_mem_nil,or_false] at n
      exact (hs2'.2 c n).trans (hk c o n q)
    have fresh:H s.heap.objs.size=none:=I.hok.fresh (Nat.le_refl _)
    have nit:∀ c v,H c=some v->c ∉ [it]:=fun c v q h=>by
      have e:c=it:=by simpa using h
      rw [e,f0] at q; cases q
    have up:∀ c o,H c=some o->(upd H s.heap.objs.size (.tup [kV (kvs[i]'hi).1,(kvs[i]'hi).2])) c=some o:=fun c o q=>by rw [zah (zao q fresh)]; exact q
    have rk:RelV (kV (kvs[i]'hi).1) key:=by rw [rq.1]; exact kV_of hkey
    have I2:Inv X pins σ (upd H s.heap.objs.size (.tup [kV (kvs[i]'hi).1,(kvs[i]'hi).2])) { s with heap:=hp2 }:=by
      refine I.step (t':=s.toks) (g':=s.gens) (d':=s.drawn) (ch:=[it]) (fun c hc=>?_) (fun c o _ _ hc q _=>k2 c o hc q)
        (fun c o _ _ hc q _=>⟨o.slots,k2 c o hc q⟩) (fun c o _ q n=>by rw [zah (Nat.ne_of_lt (Heap.lt_size q))]; exact n)
        (fun c o hc q=>⟨o,k2 c o hc q⟩) (fun c zs q=>up c _ q) (fun c ob v q=>up c _ q) (fun c ps q=>⟨#[],by rw [up c _ q]; simp⟩) (fun m hm=>?_) (fun c v q=>?_) I.bare
      · obtain ⟨f0,f1,f2,f3,f4,f5⟩:=hf c hc
        exact ⟨f3,f1,f4,f5⟩
      · obtain ⟨o,es,ep,ho,r⟩:=hm
        refine ⟨o,es,ep,k2 _ o (fun h=>?_) ho,r⟩
        exact (hf _ h).2.1 rfl
      · by_cases hb:c=s.heap.objs.size
        · subst hb
          rw [zab] at q
          cases q
          exact ⟨by show 2<=sizeLine; decide,[key,(vs[i]'hi').2],.cons rk (.cons rq.2 .nil),_,htup,rfl,_,rfl⟩
        · rw [zah hb] at q
          refine (I.hok c v q).stay (fun d v' hd q'=>?_) (fun d y=>up d _ y) fun d zs y=>up d _ y
          refine k2 d v' ?_ q'
          rcases hd with y | y
          · rw [y]; exact nit c v q
          · exact nit d _ y
    refine ⟨.ref s.heap.objs.size,_,I2,rfl,⟨s.heap.objs.size,_,rfl,fresh,hkv,rfl⟩,⟨_,_,hz2⟩,fun c hc=>?_⟩
    have e:c=it:=by simpa using hc
    subst e
    rw [zah nsz.symm]
    exact f0
  done:=by
    intro X hP hw hK hc i pins s σ H E I hf st hg
    subst hP hw hK
    obtain ⟨hi,hz⟩:=hg
    obtain ⟨ok,ov,he⟩:=st
    obtain ⟨f0,f1,f2,f3,f4,f5⟩:=hf it (by simp)
    have da:s.heap.DictAt (zax X.prog X.w) a vs ep:=⟨o,es,(I.hok a _ hz).1,ho⟩
    exact wpAny_pyNext_items_end (I.ok.hd hc) he da (List.getElem?_eq_none (by rw [<- rel.length]; exact hi)) fun h' eb=>⟨rfl,I.turned (t':=s.toks) (fun b o hb e=>eb b o hb e) f0 f1 f3 f4 f5⟩
  self:=fun _ _ _ _ _ st h=>by
    obtain ⟨ok,ov,he⟩:=st
    exact PySem.W.kcp_self he h
def tForI (tl:TE) (g:TG) (tb:TS):TS:=fun D σ H=>tl σ H fun x H1=>∃ a kvs,x = .ref a/\H1 a=some (.dK kvs)/\∀ o,∃ W:Nat->Nat->St->Hp->Prop,(∃ m,W 0 m σ (upd H1 a (.frz o (.dK kvs))))/\∀ i m σ H,W i m σ H ->
 H a=some (.frz o (.dK kvs))/\((kvs.length<=i/\D.nx σ (upd H a (.dK kvs)))\/(∃ kv,kvs[i]? = some kv/\∃ N:St->Hp->Prop,(∀ σ' H',N σ' H'->∃ m',m' < m/\W (i+1) m' σ' H')/\∀ p,H p=none->g (.ref p) σ (upd H p (.tup [kV kv.1,kv.2])) fun σ2 H2=>tb { D with nx:=N,ct:=N,bk:=fun _ _=>False } σ2 H2))
section
variable {X:Cx}
theorem zvx {o:Expr} {apos cpos tpos:Pos} {elts:List Expr} {x1} {body:List Stmt} {tl:TE} {g:TG} {tb:TS} {pos:Pos} (hp:PassesOwn (model X.prog X.w) X.A X.env X.xe) (hc:X.calm=true) (hl:PE X o tl) (hg:PG X (.Tuple elts x1 tpos) g) (hb:PSs X body tb)
    (hs:∀ x,foldedSetIterable (.Call (.Attribute o "items" apos) [] [] cpos) X.env x=pure x:=by intro _; rfl)
    (hbase:attributeBase o "items" X.env (eval o X.env)=eval o X.env:=by rfl) (hline:(apos.endLine == cpos.line)=true:=by rfl):PS X (.For (.Tuple elts x1 tpos) (.Call (.Attribute o "items" apos) [] [] cpos) body [] pos) (tForI tl g tb):=by
  intro pins s σ H D I h
  refine wpAny_For (wpAny_Call_method0_late hbase hline (thn (hl pins s σ H _ I h) fun v s1 ⟨x,H1,I1,r1,a,kvs,ex,ha,hall⟩=>?_)) hs
  subst ex
  obtain rfl:v=Value.ref a:=r1
  obtain ⟨t1,t2,_⟩:=zph I1 (.inl ⟨kvs,.inl ha⟩)
  obtain ⟨z,hd,vs,rel,o',es,ep,ho,hx⟩:=dk_of I1.hok ha
  refine ⟨"dict", "dict.items", PySem.F.plainAttrs_dict,PySem.F.slot_dict_items,PySem.F.type_dict_items,t1,t2,Calls.callWith_builtin rfl (PySem.evalArgs_none ?_)⟩
  refine call_meetsIn PySem.F.slot_dict_items t1 PySem.F.entry_dict_items (PySem.F.args_dict_items_1 _) (meets_dict_items (zax X.prog X.w) a hd) ⟨⟨vs,o',es,ep,ho,hx⟩,?_⟩
  have Iv:Inv X pins σ H1 { s1 with heap:=s1.heap.push { cls:=.type "dict_items", data:=.fields #[.ref a] } }:=I1.kept (t':=s1.toks) fun b o e=>Heap.get?_push_of_some _ e
  have hov:(s1.heap.push { cls:=.type "dict_items", data:=.fields #[.ref a] }).get? a=some o':=Heap.get?_push_of_some _ ho
  have hvw:(s1.heap.push { cls:=.type "dict_items", data:=.fields #[.ref a] }).IsItemsView s1.heap.objs.size a:=⟨_,Heap.get?_push_size _ rfl,rfl,rfl⟩
  generalize s1.heap.push { cls:=.type "dict_items", data:=.fields #[.ref a] } = hv at Iv hov hvw ⊢
  refine wpAny_pyIter_items (s:={ s1 with heap:=hv }) (knd:=zax X.prog X.w) hvw ⟨o',es,hov,hx⟩ ?_
  obtain ⟨W,⟨m0,w0⟩,turn⟩:=hall o'
  have n0:∀ o u,X.H₀ a≠some (.frz o u):=fun o' u e=>by
    have:=I1.base.frzs a o' u e
    rw [ha] at this
    cases this
  have fresh:H1 hv.objs.size=none:=Iv.hok.fresh (Nat.le_refl _)
  have fp1:=Iv.fpOk (Nat.le_refl _) fresh
  have na:hv.objs.size≠a:=fun y=>by rw [y,ha] at fresh; cases fresh
  have I2:Inv X pins σ (upd H1 a (.frz o' (.dK kvs))) { s1 with heap:=hv.push { cls:=.type "dict_itemiterator", data:=.fields #[.none,.bool false,.ref a,.int 0 0,.int vs.length 0,.int ep 0,.none,.none] } } :=
    (Iv.kept (t':=s1.toks) fun b o e=>Heap.get?_push_of_some _ e).frozen ha (Heap.get?_push_of_some _ hov)
  have T:Turn X.prog X.w X.K (.Tuple elts x1 tpos) (Iti a o' kvs) [hv.objs.size] hv.objs.size (fun i h=>∃ ok ov,IsItemIter h hv.objs.size a i vs.length ep ok ov):=zkp a _ rel hx
  have stat:∀ {H':Hp},H' hv.objs.size=none->∀ b∈[hv.objs.size],FpOk X pins H' b:=fun hn b hb=>by
    have e:b=hv.objs.size:=by simpa using hb
    subst e
    exact ⟨hn,fp1.2⟩
  refine codeAny_forLoop_any (fun n s'=>∃ i σ' H',Inv X pins σ' H' s'/\(∃ ok ov,IsItemIter s'.heap hv.objs.size a i vs.length ep ok ov)/\H' hv.objs.size=none/\W i n σ' H') ?_ m0 ⟨0,σ,_,I2,⟨.none,.none,Heap.get?_push_size _ rfl⟩,by rw [zah na]; exact fresh,w0⟩
  rintro n s3 ⟨i,σ3,H3,I3,st3,fr3,w3⟩
  obtain ⟨hz,cs⟩:=turn i n σ3 H3 w3
  rcases cs with ⟨stop,qn⟩ | ⟨kv,hkv,N,hN,step⟩
  · refine wpAny_passesOwn hp (thn (T.done X rfl rfl rfl hc i pins s3 σ3 H3 X.xe I3 (stat fr3) st3 ⟨stop,hz⟩) fun r s4 ⟨hr,I4⟩=>?_)
    subst hr
    exact wpAny_execs_nil ⟨σ3,_,I4.thawed hz n0,qn⟩
  · refine wpAny_passesOwn hp (thn (T.item X rfl rfl rfl hc i pins s3 σ3 H3 X.xe I3 (stat fr3) st3 ⟨(List.getElem?_eq_some_iff.mp hkv).1,hz⟩) fun r s4 ⟨u,hr,h4⟩=>?_)
    subst hr
    refine wpAny_passesOwn hp (thn h4 fun _ s5 ⟨x,H5,I5,r5,⟨pt,kv',ex,hpt,hkv',eH⟩,st5,fr5⟩=>?_)
    subst eH
    rw [hkv] at hkv'
    cases hkv'
    subst ex
    have I5':=I5.pinned (stat (fr5 _ (by simp))) (T.obj _ _ st5)
    refine wpAny_passesOwn hp (thn (hg _ s5 σ3 _ _ u _ I5' r5 (step pt hpt)) fun _ s6 ⟨σ6,H6,I6,q6⟩=>?_)
    refine wpAny_passesOwn hp (thn (hb _ s6 σ6 H6 _ I6 q6) fun f s7 q7=>?_)
    have again:∀ {σ7:St} {H7:Hp},Inv X (pins++zik [hv.objs.size] s5.heap) σ7 H7 s7->N σ7 H7->∃ m,m<n/\∃ i σ' H',Inv X pins σ' H' s7/\(∃ ok ov,IsItemIter s7.heap hv.objs.size a i vs.length ep ok ov)/\H' hv.objs.size=none/\W i m σ' H':=fun {σ7 H7} I7 n7=>by
      obtain ⟨m',hm,w7⟩:=hN σ7 H7 n7
      refine ⟨m',hm,i+1,σ7,H7,I7.unpinned,T.keep _ _ _ st5 fun b hb o e=>(I7.pin (b,o) (List.mem_append_right _ (List.mem_append_right _ (zdv hb e)))).1,?_,w7⟩
      obtain ⟨o,e,d⟩:=T.obj _ _ st5 hv.objs.size (by simp)
      exact (I7.pin (_,o) (List.mem_append_right _ (List.mem_append_right _ (zdv (by simp) e)))).2.1
    cases f with
    | next=>obtain ⟨σ7,H7,I7,n7⟩:=q7; exact again I7 n7
    | cont=>obtain ⟨σ7,H7,I7,n7⟩:=q7; exact again I7 n7
    | brk=>obtain ⟨σ7,H7,I7,q7⟩:=q7; exact False.elim q7
    | ret v=>obtain ⟨x7,σ7,H7,I7,r7,q7⟩:=q7; exact ⟨x7,σ7,H7,I7.unpinned,r7,q7⟩
end
theorem zsm {a:Addr} {kvs:List (Key×V)} {o:Obj} {g:TG} {tb:TS} {D:Ends} {σ:St} {H:Hp} (Pv:Nat->St->Hp->Prop) (h0:Pv 0 σ H) (hz:∀ i σ H,i<=kvs.length->Pv i σ H->H a=some (.frz o (.dK kvs)))
    (hs:∀ i kv σ H p,kvs[i]? = some kv->Pv i σ H->H p=none->g (.ref p) σ (upd H p (.tup [kV kv.1,kv.2])) fun σ2 H2=>tb { D with nx:=Pv (i+1),ct:=Pv (i+1),bk:=fun _ _=>False } σ2 H2) (hd:∀ σ H,Pv kvs.length σ H->D.nx σ (upd H a (.dK kvs))) :
    ∃ W:Nat->Nat->St->Hp->Prop,(∃ m,W 0 m σ H)/\∀ i m σ H,W i m σ H ->
      H a=some (.frz o (.dK kvs))/\((kvs.length<=i/\D.nx σ (upd H a (.dK kvs)))\/(∃ kv,kvs[i]? = some kv/\∃ N:St->Hp->Prop,(∀ σ' H',N σ' H'->∃ m',m' < m/\W (i+1) m' σ' H')/\∀ p,H p=none->g (.ref p) σ (upd H p (.tup [kV kv.1,kv.2])) fun σ2 H2=>tb { D with nx:=N,ct:=N,bk:=fun _ _=>False } σ2 H2)):=by
  refine ⟨fun i m σ H=>m=kvs.length-i/\i<=kvs.length/\Pv i σ H,⟨kvs.length,by simp,Nat.zero_le _,h0⟩,?_⟩
  rintro i m σ H ⟨rfl,hi,p⟩
  refine ⟨hz i σ H hi p,?_⟩
  by_cases hlt:i<kvs.length
  · exact .inr ⟨kvs[i],by simp [hlt],Pv (i+1),fun σ' H' p'=>⟨kvs.length-(i+1),by omega,rfl,hlt,p'⟩,fun q hq=>hs i _ σ H q (by simp [hlt]) p hq⟩
  · have e:i=kvs.length:=by omega
    subst e
    exact .inl ⟨Nat.le_refl _,hd σ H p⟩
section
variable {X:Cx} {pins:List (Addr×Obj)} {σ:St} {H:Hp} {s:Shared} {a vw:Addr} {kvs:List (Key×V)} {Q:VK}
end
end L2
namespace L2
open PySem PySem.Spec PyProof.Rows
section
variable {X:Cx}
end
end L2
namespace L2
open PySem PySem.Spec PyProof.Rows
section
variable {X:Cx}
end
def zuw (tl:TE):TI:=fun σ H R=>tl σ H fun x H1=>∃ a kvs,x = .ref a/\H1 a=some (.dK kvs)/\∀ o,R (Iti a o kvs) (upd H1 a (.frz o (.dK kvs)))
section
variable {X:Cx}
theorem zts {o:Expr} {apos cpos tpos:Pos} {elts:List Expr} {x1} {tl:TE} (hl:PE X o tl) (hbase:attributeBase o "items" X.env (eval o X.env)=eval o X.env:=by rfl) (hline:(apos.endLine == cpos.line)=true:=by rfl) :
    PI X (.Tuple elts x1 tpos) (.Call (.Attribute o "items" apos) [] [] cpos) (zuw tl):=by
  intro pins s σ H R I h
  refine wpAny_Call_method0_late hbase hline (thn (hl pins s σ H _ I h) fun v s1 ⟨x,H1,I1,r1,a,kvs,ex,ha,hall⟩=>?_)
  subst ex
  obtain rfl:v=Value.ref a:=r1
  obtain ⟨t1,t2,_⟩:=zph I1 (.inl ⟨kvs,.inl ha⟩)
  obtain ⟨z,hd,vs,rel,o',es,ep,ho,hx⟩:=dk_of I1.hok ha
  refine ⟨"dict", "dict.items", PySem.F.plainAttrs_dict,PySem.F.slot_dict_items,PySem.F.type_dict_items,t1,t2,Calls.callWith_builtin rfl (PySem.evalArgs_none ?_)⟩
  refine call_meetsIn PySem.F.slot_dict_items t1 PySem.F.entry_dict_items (PySem.F.args_dict_items_1 _) (meets_dict_items (zax X.prog X.w) a hd) ⟨⟨vs,o',es,ep,ho,hx⟩,?_⟩
  have Iv:Inv X pins σ H1 { s1 with heap:=s1.heap.push { cls:=.type "dict_items", data:=.fields #[.ref a] } }:=I1.kept (t':=s1.toks) fun b o e=>Heap.get?_push_of_some _ e
  have hov:(s1.heap.push { cls:=.type "dict_items", data:=.fields #[.ref a] }).get? a=some o':=Heap.get?_push_of_some _ ho
  have hvw:(s1.heap.push { cls:=.type "dict_items", data:=.fields #[.ref a] }).IsItemsView s1.heap.objs.size a:=⟨_,Heap.get?_push_size _ rfl,rfl,rfl⟩
  generalize s1.heap.push { cls:=.type "dict_items", data:=.fields #[.ref a] } = hv at Iv hov hvw ⊢
  refine wpAny_pyIter_items (s:={ s1 with heap:=hv }) (knd:=zax X.prog X.w) hvw ⟨o',es,hov,hx⟩ ?_
  have fresh:H1 hv.objs.size=none:=Iv.hok.fresh (Nat.le_refl _)
  have na:hv.objs.size≠a:=fun y=>by rw [y,ha] at fresh; cases fresh
  have I2:Inv X pins σ (upd H1 a (.frz o' (.dK kvs))) { s1 with heap:=hv.push { cls:=.type "dict_itemiterator", data:=.fields #[.none,.bool false,.ref a,.int 0 0,.int vs.length 0,.int ep 0,.none,.none] } } :=
    (Iv.kept (t':=s1.toks) fun b o e=>Heap.get?_push_of_some _ e).frozen ha (Heap.get?_push_of_some _ hov)
  refine ⟨hv.objs.size,[hv.objs.size],_,_,_,rfl,I2,zkp a _ rel hx,⟨.none,.none,Heap.get?_push_size _ rfl⟩,fun b hb=>?_,hall o'⟩
  have e:b=hv.objs.size:=by simpa using hb
  subst e
  have fp1:=Iv.fpOk (Nat.le_refl _) fresh
  exact ⟨by rw [zah na]; exact fresh,fp1.2⟩
def tThaw (t:TE):TE:=fun σ H Q=>t σ H fun x H'=>∃ a o kvs kvs',H a=some (.dK kvs')/\H' a=some (.frz o (.dK kvs))/\Q x (upd H' a (.dK kvs))
theorem zsn {e:Expr} {t:TE} (h:PE X e t):PE X e (tThaw t):=by
 intro pins s σ H Q I q
 refine thn (h pins s σ H _ I q) fun v s1 ⟨x,H1,I1,r1,a,o,kvs,kvs',h0,h1,q1⟩=>?_
 refine ⟨x,_,I1.thawed h1 fun o' u e=>?_,r1,q1⟩
 have:=I.base.frzs a o' u e
 rw [h0] at this
 cases this
end
theorem zqg {a:Addr} {kvs:List (Key×V)} {o:Obj} {g:TG} {tc:TT} {te:TE} {D:Addr} {τ:St} {H:Hp} {Q:VK} (Pv:Nat->St->Hp->Prop) (h0:Pv 0 τ H) (hz:∀ i τ H,i<=kvs.length->Pv i τ H->H a=some (.frz o (.dK kvs)))
    (hs:∀ i kv τ H p,kvs[i]? = some kv->Pv i τ H->H p=none->g (.ref p) τ (upd H p (.tup [kV kv.1,kv.2])) fun τ2 H3=>tc τ2 H3 fun b H4=>if b=true then te τ2 H4 fun y H5=>∃ ys,H5 D=some (.lst ys)/\ys.length<sizeLine/\Pv (i+1) τ2 (upd H5 D (.lst (ys++[y]))) else Pv (i+1) τ2 H4)
    (hd:∀ τ H,Pv kvs.length τ H->Q (.ref D) H):CompG (Iti a o kvs) g tc te D τ H Q:=by
  refine ⟨fun i m τ H=>m=kvs.length-i/\i<=kvs.length/\Pv i τ H,⟨kvs.length,by simp,Nat.zero_le _,h0⟩,?_⟩
  rintro i m τ H ⟨rfl,hi,p⟩
  have q:=hz i τ H hi p
  by_cases hlt:i<kvs.length
  · refine .inr ⟨⟨hlt,q⟩,Pv (i+1),fun τ' H' p'=>⟨kvs.length-(i+1),by omega,rfl,hlt,p'⟩,fun x H2 z=>?_⟩
    obtain ⟨b,kv,rfl,hb,hkv,rfl⟩:=z
    exact hs i kv τ H b hkv p hb
  · have e:i=kvs.length:=by omega
    subst e
    exact .inl ⟨⟨Nat.le_refl _,q⟩,hd τ H p⟩
theorem zff {K:PySem.W.Frag} {H:Hp}:∀ (ns:List Str),DeepAll K H (ns.map V.str) (ns.map PyData.str)
 | []=>.nil
 | _ :: r=>.cons (.str _) (zff r)
theorem zpl {α β:Type} (f:α->β):∀ (l:List α) (j:Nat),(l.map f).eraseIdx j=(l.eraseIdx j).map f
 | [],_=>rfl
 | _ :: _,0=>rfl
 | a :: r,j+1=>by
  show f a :: _=f a :: _
  rw [zpl f r j]
theorem zux {K:PySem.W.Frag} {H:Hp} {l:Addr} {L:List Str} {x:Str} {Q:VK} (nd:L.Nodup) (hx:x∈L) (n9:L.length<=100) (ok:∀ y∈L,PyData.strOk y=true) (h:H l=some (.lst (L.map V.str))) (q:Q .non (upd H l (.lst ((L.erase x).map V.str)))):zsk K (.ref l) [.str x] H Q:=by
 obtain ⟨j,hj⟩:=List.getElem?_of_mem hx
 have jl:=(List.getElem?_eq_some_iff.mp hj).1
 have es:L.erase x=L.eraseIdx j:=by
  rw [List.erase_eq_eraseIdx_of_idxOf]
  rw [<- (List.getElem?_eq_some_iff.mp hj).2]
  exact (nd.idxOf_getElem j jl)
 have okx:PySem.SeqAt.shaped (.str x)=true:=by
  unfold PySem.SeqAt.shaped
  rw [Bool.and_eq_true,decide_eq_true_eq]
  exact ⟨by simpa only [PyData.canLay0] using ok x hx,by simp [PyData.depth]⟩
 refine ⟨l,L.map V.str,.str x,j,.str x,(L.take (j+1)).map PyData.str,rfl,rfl,h,line_lt (by rw [List.length_map]; omega),by rw [List.length_map]; exact jl,.str _,okx,?_,fun e he=>?_,?_,fun m e hmj he=>?_,?_⟩
 ·rw [<- List.map_take]
  exact zff _
 ·obtain ⟨y,hy,rfl⟩:=List.mem_map.mp he
  unfold PySem.SeqAt.shaped
  rw [Bool.and_eq_true,decide_eq_true_eq]
  exact ⟨by simpa only [PyData.canLay0] using ok y (List.mem_of_mem_take hy),by simp [PyData.depth]⟩
 ·rw [List.getElem?_map,List.getElem?_take,if_pos (by omega),hj]
  simp [PyData.eqv]
 ·rw [List.getElem?_map,List.getElem?_take,if_pos (by omega)] at he
  cases hy:L[m]? with
  | none=>rw [hy] at he; simp at he
  | some y =>
   rw [hy] at he
   have he:PyData.str y=e:=by simpa using he
   subst he
   have ne:y≠x:=fun c=>by
    rw [c] at hy
    have:=(List.getElem?_inj jl nd).mp (hj.trans hy.symm)
    omega
   simp [PyData.eqv]
   exact ne
 ·rw [zpl,<- es]
  exact q
end L2
namespace L2
open PySem PySem.Spec PyProof.Rows
def optS:Option Str->V
 | none=>.non
 | some x=>.str x
structure FR (fs:List (Str×V)) (most:Int) (pm:Addr) (ch:V) (pt pg:Addr) (tu:Option Str):Prop where
 mo:fs.lookup ("most" : Str)=some (.int most)
 me:fs.lookup ("members" : Str)=some (.ref pm)
 ch:fs.lookup ("chosen" : Str)=some ch
 qu:fs.lookup ("queue" : Str)=some (.ref pt)
 re:fs.lookup ("rests" : Str)=some (.ref pg)
 tu:fs.lookup ("turn" : Str)=some (optS tu)
 no:∀ m:Str,¬ m = "most" -> ¬ m = "members" -> ¬ m = "chosen" -> ¬ m = "queue" -> ¬ m = "rests" -> ¬ m = "turn" -> fs.lookup m=none
 len:fs.length<900
theorem FR.mk0 (most:Int) (pm:Addr) (ch:V) (pt pg:Addr):FR (putF "turn" .non (putF "rests" (.ref pg) (putF "queue" (.ref pt) (putF "chosen" ch (putF "members" (.ref pm) (putF "most" (.int most) [])))))) most pm ch pt pg none:=by
 refine ⟨?_,?_,?_,?_,?_,?_,fun m h1 h2 h3 h4 h5 h6=>?_,?_⟩
 ·rw [zaj (by decide +kernel),zaj (by decide +kernel),zaj (by decide +kernel),zaj (by decide +kernel),zaj (by decide +kernel),zbt]
 ·rw [zaj (by decide +kernel),zaj (by decide +kernel),zaj (by decide +kernel),zaj (by decide +kernel),zbt]
 ·rw [zaj (by decide +kernel),zaj (by decide +kernel),zaj (by decide +kernel),zbt]
 ·rw [zaj (by decide +kernel),zaj (by decide +kernel),zbt]
 ·rw [zaj (by decide +kernel),zbt]
 ·rw [zbt]; rfl
 ·rw [zaj h6,zaj h5,zaj h4,zaj h3,zaj h2,zaj h1]; rfl
 ·have a1:=zan (fs:=[]) (f := "most") (v:=.int most)
  have a2:=zan (fs:=putF "most" (.int most) []) (f := "members") (v:=.ref pm)
  have a3:=zan (fs:=putF "members" (.ref pm) (putF "most" (.int most) [])) (f := "chosen") (v:=ch)
  have a4:=zan (fs:=putF "chosen" ch (putF "members" (.ref pm) (putF "most" (.int most) []))) (f := "queue") (v:=.ref pt)
  have a5:=zan (fs:=putF "queue" (.ref pt) (putF "chosen" ch (putF "members" (.ref pm) (putF "most" (.int most) [])))) (f := "rests") (v:=.ref pg)
  have a6:=zan (fs:=putF "rests" (.ref pg) (putF "queue" (.ref pt) (putF "chosen" ch (putF "members" (.ref pm) (putF "most" (.int most) []))))) (f := "turn") (v:=.non)
  simp only [List.length_nil] at a1
  omega
theorem FR.put_tu {fs:List (Str×V)} {most:Int} {pm:Addr} {ch:V} {pt pg:Addr} {tu:Option Str} (tu':Option Str) (h:FR fs most pm ch pt pg tu):FR (putF "turn" (optS tu') fs) most pm ch pt pg tu':=by
 refine ⟨?_,?_,?_,?_,?_,zbt,fun m h1 h2 h3 h4 h5 h6=>?_,?_⟩
 ·rw [zaj (by decide +kernel)]; exact h.mo
 ·rw [zaj (by decide +kernel)]; exact h.me
 ·rw [zaj (by decide +kernel)]; exact h.ch
 ·rw [zaj (by decide +kernel)]; exact h.qu
 ·rw [zaj (by decide +kernel)]; exact h.re
 ·rw [zaj h6]; exact h.no m h1 h2 h3 h4 h5 h6
 ·rw [zlb h.tu]; exact h.len
structure Rx (C Cm:Addr) (H:Hp) (a:At5) (most:Int) (nm:Nm) (q:List Str) (rs:Nm) (tu:Option Str) (ch:V):Prop where
 ex:∃ dx fs,H a.p=some (.ins C dx fs)/\FR fs most a.pm ch a.pt a.pg tu
 mb:Mb Cm H a.pm a.ps nm
 hq:H a.pt=some (.lst (q.map V.str))
 hr:H a.pg=some (.dK (kvsOf rs))
 n3:a.pg≠a.ps
 n4:a.p≠a.pm
section
variable {C Cm:Addr} {H H':Hp} {a:At5} {most:Int} {nm nm':Nm} {q q':List Str} {rs rs':Nm} {tu tu':Option Str} {ch ch':V}
theorem Rx.set_q (S:Rx C Cm H a most nm q rs tu ch):Rx C Cm (upd H a.pt (.lst (q'.map V.str))) a most nm q' rs tu ch:=by
 obtain ⟨dx,fs,h1,h2⟩:=S.ex
 obtain ⟨dm,fm,m1,m2⟩:=S.mb.ex
 have kp:∀ b o,b≠a.pt->H b=some o->upd H a.pt (.lst (q'.map V.str)) b=some o:=fun b o n e=>by rw [zah n]; exact e
 exact ⟨⟨dx,fs,kp _ _ (ne_of h1 S.hq (by intro z; cases z)) h1,h2⟩,⟨⟨dm,fm,kp _ _ (ne_of m1 S.hq (by intro z; cases z)) m1,m2⟩,kp _ _ (ne_of S.mb.hs S.hq (by intro z; cases z)) S.mb.hs⟩,zab,kp _ _ (ne_of S.hr S.hq (by intro z; cases z)) S.hr,S.n3,S.n4⟩
theorem Rx.set_r (S:Rx C Cm H a most nm q rs tu ch):Rx C Cm (upd H a.pg (.dK (kvsOf rs'))) a most nm q rs' tu ch:=by
 obtain ⟨dx,fs,h1,h2⟩:=S.ex
 obtain ⟨dm,fm,m1,m2⟩:=S.mb.ex
 have kp:∀ b o,b≠a.pg->H b=some o->upd H a.pg (.dK (kvsOf rs')) b=some o:=fun b o n e=>by rw [zah n]; exact e
 exact ⟨⟨dx,fs,kp _ _ (ne_of h1 S.hr (by intro z; cases z)) h1,h2⟩,⟨⟨dm,fm,kp _ _ (ne_of m1 S.hr (by intro z; cases z)) m1,m2⟩,kp _ _ S.n3.symm S.mb.hs⟩,kp _ _ (ne_of S.hq S.hr (by intro z; cases z)) S.hq,zab,S.n3,S.n4⟩
theorem Rx.set_s (S:Rx C Cm H a most nm q rs tu ch):Rx C Cm (upd H a.ps (.dK (kvsOf nm'))) a most nm' q rs tu ch:=by
 obtain ⟨dx,fs,h1,h2⟩:=S.ex
 have g1:=S.mb.hs
 have kp:∀ b o,b≠a.ps->H b=some o->upd H a.ps (.dK (kvsOf nm')) b=some o:=fun b o n e=>by rw [zah n]; exact e
 exact ⟨⟨dx,fs,kp _ _ (ne_of h1 g1 (by intro z; cases z)) h1,h2⟩,S.mb.put,kp _ _ (ne_of S.hq g1 (by intro z; cases z)) S.hq,kp _ _ S.n3 S.hr,S.n3,S.n4⟩
theorem Rx.set_p {dx:Addr} {fs fs':List (Str×V)} (S:Rx C Cm H a most nm q rs tu ch) (h1:H a.p=some (.ins C dx fs)) (ft:FR fs' most a.pm ch' a.pt a.pg tu'):Rx C Cm (upd H a.p (.ins C dx fs')) a most nm q rs tu' ch':=by
 obtain ⟨dm,fm,m1,m2⟩:=S.mb.ex
 have kp:∀ b o,b≠a.p->H b=some o->upd H a.p (.ins C dx fs') b=some o:=fun b o n e=>by rw [zah n]; exact e
 exact ⟨⟨dx,fs',zab,ft⟩,⟨⟨dm,fm,kp _ _ S.n4.symm m1,m2⟩,kp _ _ (ne_of S.mb.hs h1 (by intro z; cases z)) S.mb.hs⟩,kp _ _ (ne_of S.hq h1 (by intro z; cases z)) S.hq,kp _ _ (ne_of S.hr h1 (by intro z; cases z)) S.hr,S.n3,S.n4⟩
theorem Rx.meth {m:Str} {Z:Prop} (S:Rx C Cm H a most nm q rs tu ch) (h:¬ m = "most" /\ ¬ m = "members" /\ ¬ m = "chosen" /\ ¬ m = "queue" /\ ¬ m = "rests" /\ ¬ m = "turn") (z:Z):rMeth C m (.ref a.p) H Z:=by
 obtain ⟨dx,fs,hp,ft⟩:=S.ex
 exact zbc hp (ft.no _ h.1 h.2.1 h.2.2.1 h.2.2.2.1 h.2.2.2.2.1 h.2.2.2.2.2) z
end
end L2
namespace Sw
open L2 PySem
theorem fst_drop (nm:Nm) (x:Str):(dropN nm x).map (·.1)=(nm.map (·.1)).filter fun y=>decide (y≠x):=by
 unfold dropN
 rw [List.filter_map]
 rfl
theorem sh_mem {nm:Nm} {x:Str}:shOf nm x≠none↔x∈nm.map (·.1):=by
 constructor
 ·intro h
  cases e:shOf nm x with
  | none=>exact absurd e h
  | some s=>exact List.mem_map.mpr ⟨_,ztq e,rfl⟩
 ·intro h
  obtain ⟨p,hp,e⟩:=List.mem_map.mp h
  have:(x,p.2)∈nm:=by rw [<- e]; exact hp
  exact zny this
theorem sh_none {nm:Nm} {x:Str}:shOf nm x=none↔x ∉ nm.map (·.1):=by
 constructor
 ·exact fun h z=>sh_mem.mpr z h
 ·intro h
  cases e:shOf nm x with
  | none=>rfl
  | some s=>exact absurd (sh_mem.mp (by rw [e]; simp)) h
structure RI (most:Int) (nm:Nm) (q:List Str) (rs:Nm) (tu:Option Str):Prop where
 m0:1<=most
 ks:rs.map (·.1)=nm.map (·.1)
 nd:(nm.map (·.1)).Nodup
 pm:(q++tu.toList).Perm (nm.map (·.1))
 sh:∀ x s,shOf nm x=some s->1<=s/\s<=1000000
 bd:∀ x s,shOf nm x=some s->∃ r,shOf rs x=some r/\0-most<r/\r<=s*most/\(0<r->tu=some x)
section
variable {most:Int} {nm:Nm} {q:List Str} {rs:Nm} {tu:Option Str}
theorem RI.nil (h:1<=most):RI most [] [] [] none:=⟨h,rfl,.nil,.refl _,fun x s e=>(by cases e),fun x s e=>(by cases e)⟩
theorem RI.put (h:RI most nm q rs tu) {x:Str} {s:Int} (hx:shOf nm x=none) (s0:1<=s) (s1:s<=1000000):RI most (nm++[(x,s)]) (q++[x]) (rs++[(x,0)]) tu:=by
 have hr:shOf rs x=none:=by rw [sh_none,h.ks,<- sh_none]; exact hx
 refine ⟨h.m0,?_,?_,?_,fun y t e=>?_,fun y t e=>?_⟩
 ·rw [List.map_append,List.map_append,h.ks]; rfl
 ·rw [List.map_append]
  refine List.nodup_append.mpr ⟨h.nd,by simp,fun a ha b hb=>?_⟩
  have:b=x:=by simpa using hb
  subst this
  exact fun z=>sh_none.mp hx (z ▸ ha)
 ·rw [List.map_append]
  have:=h.pm.append_right [x]
  refine List.Perm.trans ?_ this
  rw [List.append_assoc,List.append_assoc]
  exact List.Perm.append_left _ List.perm_append_comm
 ·rw [zhm hx] at e
  split at e
  ·cases e; exact ⟨s0,s1⟩
  ·exact h.sh y t e
 ·rw [zhm hx] at e
  rw [zhm hr]
  have m0:=h.m0
  split at e
  ·rename_i c
   cases e
   rw [if_pos c]
   have:=Int.mul_le_mul s0 h.m0 (by omega) (by omega)
   exact ⟨0,rfl,by omega,by omega,fun z=>absurd z (by decide)⟩
  ·rename_i c
   rw [if_neg c]
   exact h.bd y t e
theorem RI.take (h:RI most nm q rs tu) {x:Str} (hx:shOf nm x≠none):RI most (dropN nm x) (if tu=some x then q else q.erase x) (dropN rs x) (if tu=some x then none else tu):=by
 have ndq:(q++tu.toList).Nodup:=h.pm.nodup_iff.mpr h.nd
 have e1:(nm.map (·.1)).filter (fun y=>decide (y≠x))=(nm.map (·.1)).erase x:=by
  rw [h.nd.erase_eq_filter]
  congr 1
  funext y
  by_cases c:y=x
  ·simp [c]
  ·simp [c]
 refine ⟨h.m0,?_,?_,?_,fun y t e=>?_,fun y t e=>?_⟩
 ·rw [fst_drop,fst_drop,h.ks]
 ·rw [fst_drop]; exact h.nd.filter _
 ·rw [fst_drop,e1]
  have:=h.pm.erase x
  refine List.Perm.trans ?_ this
  by_cases c:tu=some x
  ·rw [if_pos c,if_pos c]
   subst c
   have nq:x ∉ q:=fun z=>(List.nodup_append.mp ndq).2.2 x z x (by simp) rfl
   rw [List.erase_append_right _ nq]
   simp
  ·rw [if_neg c,if_neg c]
   have xq:x∈q:=by
    have:=h.pm.mem_iff.mpr (sh_mem.mp hx)
    rcases List.mem_append.mp this with z | z
    ·exact z
    ·cases tu with
     | none=>cases z
     | some y =>
      have:x=y:=by simpa using z
      exact absurd (by rw [this]) c
   rw [List.erase_append_left _ xq]
 ·rw [zfp] at e
  split at e
  ·cases e
  ·exact h.sh y t e
 ·rw [zfp] at e ⊢
  split at e
  ·cases e
  ·rename_i c
   rw [if_neg c]
   obtain ⟨r,a1,a2,a3,a4⟩:=h.bd y t e
   refine ⟨r,a1,a2,a3,fun z=>?_⟩
   have:=a4 z
   rw [if_neg (fun d=>c (by rw [this] at d; exact Option.some.inj d))]
   exact this
end
end Sw
namespace L2
open PySem PySem.Spec PyProof.Rows
section
variable {X:Cx}
end
end L2
namespace L2
open PySem PySem.Spec PyProof.Rows
end L2
namespace L2
open PySem PySem.Spec PyProof.Rows
def Itva (a:Addr) (o:Obj) (kvs:List (Key×V)):It :=
 ⟨fun i H=>i<kvs.length/\H a=some (.frz o (.dK kvs)),fun i H x H'=>H'=H/\∃ kv,kvs[i]? = some kv/\x=kv.2,fun i H=>kvs.length<=i/\H a=some (.frz o (.dK kvs))⟩
theorem zoa {P:Program} {w:World} {K:PySem.W.Frag} {tg:Expr} (a it:Addr) {o:Obj} {kvs:List (Key×V)} {vs:List (Key×Value)} {es:Array DictEntry} {ep:Nat} (rel:KV kvs vs)
    (ho:o.ExactDict/\o.data = .dict es ep/\KeysOf (zax P w) es/\Pairs (zax P w) es.toList vs/\(vs.map (·.1)).Nodup):Turn P w K tg (Itva a o kvs) [it] it (fun i h=>h.IsValIter it a i vs.length ep) where
  mem:=by simp
  obj:=fun i h st b hb=>by
    have e:b=it:=by simpa using hb
    subst e
    obtain ⟨o,e,c,d⟩:=st
    exact ⟨o,e,fun v z=>by rw [d] at z; cases z⟩
  keep:=fun i h h' st k=>by
    obtain ⟨o,e,c⟩:=st
    exact ⟨o,k it (by simp) o e,c⟩
  item:=by
    intro X hP hw hK hc i pins s σ H E I hf st hg
    subst hP hw hK
    obtain ⟨hi,hz⟩:=hg
    obtain ⟨f0,f1,f2,f3,f4,f5⟩:=hf it (by simp)
    have hkv:kvs[i]? = some (kvs[i]'hi):=List.getElem?_eq_getElem _
    have hi':i<vs.length:=by rw [<- rel.length]; exact hi
    have hv:vs[i]? = some (vs[i]'hi'):=List.getElem?_eq_getElem _
    obtain ⟨q,hq,rq⟩:=zgb rel hkv
    rw [hv] at hq
    cases hq
    have da:s.heap.DictAt (zax X.prog X.w) a vs ep:=⟨o,es,(I.hok a _ hz).1,ho⟩
    refine wpAny_pyNext_values_item (k:=(vs[i]'hi').1) (v:=(vs[i]'hi').2) st da hv fun h' st' sb=>?_
    have I1:Inv X pins σ H { s with heap:=h' }:=I.turned (t':=s.toks) (fun b o hb e=>(sb.2 b hb).trans e) f0 f1 f3 f4 f5
    obtain ⟨oi,e,c,d⟩:=id st'
    exact ⟨(vs[i]'hi').2,rfl,go_of (s:={ s with heap:=h' }) e c d (by decide) ⟨(kvs[i]'hi).2,H,I1,rq.2,⟨rfl,_,hkv,rfl⟩,st',fun b hb=>(hf b hb).1⟩⟩
  done:=by
    intro X hP hw hK hc i pins s σ H E I hf st hg
    subst hP hw hK
    obtain ⟨hi,hz⟩:=hg
    obtain ⟨f0,f1,f2,f3,f4,f5⟩:=hf it (by simp)
    have da:s.heap.DictAt (zax X.prog X.w) a vs ep:=⟨o,es,(I.hok a _ hz).1,ho⟩
    exact wpAny_pyNext_values_end (I.ok.hd hc) st da (List.getElem?_eq_none (by rw [<- rel.length]; exact hi)) fun h' eb=>⟨rfl,I.turned (t':=s.toks) (fun b o hb e=>eb b o hb e) f0 f1 f3 f4 f5⟩
  self:=fun _ _ _ _ _ st h=>wpAny_pyIter_valiter st h
section
variable {X:Cx}
end
end L2
namespace L2
open PySem PySem.Spec PyProof.Rows
def tOrE (t1 t2:TE):TE:=fun σ H Q=>t1 σ H Q\/t2 σ H Q
section
variable {X:Cx}
theorem zpm {e:Expr} {t1 t2:TE} (h1:PE X e t1) (h2:PE X e t2):PE X e (tOrE t1 t2):=fun pins s σ H Q I h=>h.elim (h1 pins s σ H Q I) (h2 pins s σ H Q I)
def rSlS:V->Option Int->Option Int->Hp->VK->Prop:=fun x lo hi H Q=>∃ z,x = .str z/\z.length<=sizeLine/\Q (.str (Txt.slice z lo hi)) H
theorem zxy:SlR X rSlS:=by
 intro pins s σ H x v vl vu lo hi sl Q I rx hs pl pu h
 obtain ⟨z,rfl,hz,q⟩:=h
 obtain ⟨t,rfl⟩:=rx
 refine ⟨"str", _,slot_str_getitem.lookup,typeIs_str s z t,?_⟩
 have fin:∀ l u:Option (Int×Tok),l.map (·.1)=lo->u.map (·.1)=hi->(sliceMade z t l u none).post (EP X pins σ Q) s:=fun l u el eu=>by
  unfold sliceMade
  unfold Txt.slice at q
  rw [<- el,<- eu] at q
  have q:Q (.str (if ((Option.map (fun x:Int×Tok=>x.1) none).getD 1 == 1 && (slicePicked z l u none).length == z.length)=true then z else { cps:=(List.filterMap (fun x=>z.cps[x]?) (slicePicked z l u none)).toArray })) H:=q
  split
  ·rename_i c
   rw [if_pos c] at q
   exact ⟨.str z,H,I,⟨_,rfl⟩,q⟩
  ·rename_i c
   rw [if_neg c] at q
   have le:=Txt.slice_le z lo hi
   unfold Txt.slice at le
   rw [<- el,<- eu] at le
   have le:(if ((Option.map (fun x:Int×Tok=>x.1) none).getD 1 == 1 && (slicePicked z l u none).length == z.length)=true then z else { cps:=(List.filterMap (fun x=>z.cps[x]?) (slicePicked z l u none)).toArray }).length<=z.length:=le
   rw [if_neg c] at le
   exact ⟨Nat.le_trans le hz,.str _,H,I.tok _,⟨_,rfl⟩,q⟩
 cases pl with
 | none=>cases pu with
  | none=>exact wpAny_getItem_str_slice (l:=none) (u:=none) (st:=none) hs rfl (fin none none rfl rfl)
  | int j uj=>exact wpAny_getItem_str_slice (l:=none) (u:=some (j,uj)) (st:=none) hs rfl (fin none (some (j,uj)) rfl rfl)
 | int i ui=>cases pu with
  | none=>exact wpAny_getItem_str_slice (l:=some (i,ui)) (u:=none) (st:=none) hs rfl (fin (some (i,ui)) none rfl rfl)
  | int j uj=>exact wpAny_getItem_str_slice (l:=some (i,ui)) (u:=some (j,uj)) (st:=none) hs rfl (fin (some (i,ui)) (some (j,uj)) rfl rfl)
end
end L2
namespace L2
open PySem PySem.Spec PyProof.Rows
section
variable {X:Cx}
end
end L2
namespace L2
open PySem PySem.Spec PyProof.Rows
def sg (c:Nat):Str:=⟨#[c]⟩
def Its (z:Str):It:=⟨fun i _=>i<z.length,fun i H x H'=>H'=H/\∃ c,z.cps.toList[i]? = some c/\x = .str (sg c),fun i _=>z.length<=i⟩
theorem ztt {P:Program} {w:World} {K:PySem.W.Frag} {tg:Expr} (it:Addr) (z:Str) (t:Tok) (ty:String) (hty:ty = "str_ascii_iterator" \/ ty = "str_iterator"):Turn P w K tg (Its z) [it] it (fun i h=>h.IsStrIter it ty z t i) where
 mem:=by simp
 obj:=fun i h st b hb=>by
  have e:b=it:=by simpa using hb
  subst e
  obtain ⟨o,e,c,d⟩:=st
  exact ⟨o,e,fun v z=>by rw [d] at z; cases z⟩
 keep:=fun i h h' st k=>by
  obtain ⟨o,e,r⟩:=st
  exact ⟨o,k it (by simp) o e,r⟩
 item:=by
  intro X hP hw hK hc i pins s σ H E I hf st hg
  subst hP hw hK
  obtain ⟨f0,f1,f2,f3,f4,f5⟩:=hf it (by simp)
  have hg:i<z.cps.size:=hg
  have W:Walks X.prog X.w X.A it [it] [it] z.cps.size (SignAt z) (fun i h=>h.IsStrIter it ty z t i):=by
   rcases hty with rfl | rfl
   ·exact Walks.strAscii (I.ok.hd hc) it z t
   ·exact Walks.strWide (I.ok.hd hc) it z t
  refine W.item i s _ _ hg st fun v h' tk hv st' kk=>?_
  obtain ⟨c,u,hc1,rfl⟩:=hv
  have I1:Inv X pins σ H { s with heap:=h',toks:=tk }:=I.turned (fun b o hb e=>kk b o (by simpa using hb) e) f0 f1 f3 f4 f5
  obtain ⟨o,e,c1,d⟩:=id st'
  refine ⟨_,rfl,go_of (s:={ s with heap:=h',toks:=tk }) e c1 d (by rcases hty with rfl | rfl <;> decide) ⟨.str (sg c),H,I1,⟨u,rfl⟩,⟨rfl,c,by rw [Array.getElem?_toList]; exact hc1,rfl⟩,st',fun b hb=>(hf b hb).1⟩⟩
 done:=by
  intro X hP hw hK hc i pins s σ H E I hf st hg
  subst hP hw hK
  obtain ⟨f0,f1,f2,f3,f4,f5⟩:=hf it (by simp)
  have hg:z.cps.size<=i:=hg
  rcases hty with rfl | rfl
  ·exact wpAny_pyNext_ascii_end (I.ok.hd hc) st (by simpa using hg) fun h' eb=>⟨rfl,I.turned (t':=s.toks) (fun b o hb e=>eb b o hb e) f0 f1 f3 f4 f5⟩
  ·exact wpAny_pyNext_wide_end (I.ok.hd hc) st (by simpa using hg) fun h' eb=>⟨rfl,I.turned (t':=s.toks) (fun b o hb e=>eb b o hb e) f0 f1 f3 f4 f5⟩
 self:=fun _ _ _ _ _ st h=>by
  rcases hty with rfl | rfl
  ·exact wpAny_pyIter_striter_ascii st h
  ·exact wpAny_pyIter_striter_wide st h
section
variable {X:Cx} {tg:Expr}
def iStr (tl:TE):TI:=fun σ H R=>tl σ H fun x H1=>∃ z,x = .str z/\R (Its z) H1
theorem zuy {l:Expr} {tl:TE} (hl:PE X l tl):PI X tg l (iStr tl):=by
 intro pins s σ H R I h
 refine thn (hl pins s σ H _ I h) fun v s1 ⟨x,H1,I1,r1,q1⟩=>?_
 obtain ⟨z,rfl,q⟩:=q1
 obtain ⟨t,rfl⟩:=r1
 have fin:∀ ty,(ty = "str_ascii_iterator" \/ ty = "str_iterator")->PIE X pins σ tg R (.ref s1.heap.objs.size) { s1 with heap:=s1.heap.push { cls:=.type ty,data:=.fields #[.str z t,.int 0 0] } }:=fun ty hty=>by
  refine ⟨s1.heap.objs.size,[s1.heap.objs.size],_,_,H1,rfl,I1.kept (t':=s1.toks) fun b o e=>Heap.get?_push_of_some _ e,ztt _ z t ty hty,⟨_,Heap.get?_push_size _ rfl,rfl,rfl⟩,fun b hb=>?_,q⟩
  have e:b=s1.heap.objs.size:=by simpa using hb
  subst e
  exact I1.fpOk (Nat.le_refl _) (I1.hok.fresh (Nat.le_refl _))
 cases ha:z.cps.all (· < 128)
 ·exact wpAny_pyIter_wide ha (fin _ (.inr rfl))
 ·exact wpAny_pyIter_ascii ha (fin _ (.inl rfl))
end
theorem zpn {z:Str} {g:TG} {tc:TT} {te:TE} {D:Addr} {τ:St} {H:Hp} {Q:VK} (Pv:Nat->St->Hp->Prop) (h0:Pv 0 τ H)
    (hs:∀ i c τ H,z.cps.toList[i]? = some c->Pv i τ H->g (.str (sg c)) τ H fun τ2 H3=>tc τ2 H3 fun b H4=>if b=true then te τ2 H4 fun y H5=>∃ ys,H5 D=some (.lst ys)/\ys.length<sizeLine/\Pv (i+1) τ2 (upd H5 D (.lst (ys++[y]))) else Pv (i+1) τ2 H4)
    (hd:∀ τ H,Pv z.length τ H->Q (.ref D) H):CompG (Its z) g tc te D τ H Q:=by
  refine ⟨fun i m τ H=>m=z.length-i/\i<=z.length/\Pv i τ H,⟨z.length,by simp,Nat.zero_le _,h0⟩,?_⟩
  rintro i m τ H ⟨rfl,hi,p⟩
  by_cases hlt:i<z.length
  · refine .inr ⟨hlt,Pv (i+1),fun τ' H' p'=>⟨z.length-(i+1),by omega,rfl,hlt,p'⟩,fun x H' y=>?_⟩
    obtain ⟨e,c,hc,y⟩:=y
    subst e y
    exact hs i c τ H' hc p
  · have:i=z.length:=by omega
    subst this
    exact .inl ⟨Nat.le_refl _,hd _ _ p⟩
section
variable {X:Cx}
def rInS:R2:=fun x y H Q=>∃ z w,x = .str z/\y = .str w/\Q (.bl (Txt.contains w z)) H
theorem zxz:OpR X (compareOp .In) rInS:=by
 intro pins s σ H x y v u Q I rx ry h
 obtain ⟨z,w,rfl,rfl,q⟩:=h
 obtain ⟨t,rfl⟩:=rx
 obtain ⟨t',rfl⟩:=ry
 exact SB.contains ⟨.bl _,H,I,rfl,q⟩
end
end L2
namespace L2
open PySem PySem.Spec PyProof.Rows
theorem zgd {X:Cx} {x z:Str} {pos:Pos} (hg:Gl X x) (hm:∃ t,X.mg x=some (.str z t)) (hd:(x == ("__debug__" : Str))=false:=by decide):PE X (.Name x pos) (tC (.str z)):=by
 obtain ⟨t,hm⟩:=hm
 exact zkt hg hm ⟨t,rfl⟩ hd
end L2
namespace L2
open PySem PySem.Spec PyProof.Rows
section
variable {M:Model} {A:Around} {E:Value->Shared->Prop} {s:Shared} {B:Heap} {env:Env} {outer:List Env} {L e:Addr} {cls:Value} {dct:Option Addr}
end
section
variable {X:Cx} {pins:List (Addr×Obj)} {σ:St} {H H':Hp} {s:Shared} {h':Heap}
end
section
variable {P:Program} {w:World} {X:Cx} {scope:Scope} {cl:List (Str×Addr)} {N:List Str} {Ek:XH} {fp:List Addr} {s s':Shared} {H H':Hp} {pins:List (Addr×Obj)} {τ:St}
end
section
variable {P:Program} {w:World} {K:PySem.W.Frag} {mg:Str->Option Value} {base:Heap} {N:List Str} {qual:Str} {sc:Scope} {f:Addr} {cd:Value} {A:Around} {outer:List Env} {s₀:Shared} {H₀:Hp} {E:XK}
end
end L2
namespace Sw
open PySem L2
def figs:Str:=Str.ofString "0123456789"
theorem in_str (x:Str) (c:Nat):Txt.contains x (sg c)=decide (c∈x.cps.toList):=StrLaws.found_one x c
theorem len_list (x:Str):x.cps.toList.length=x.length:=Array.length_toList
def zuz (z:Str):Prop:=z.cps.toList[0]? = some 48/\1<z.length
def Digs (z:Str):Prop:=∀ c∈z.cps.toList,c∈figs.cps.toList
instance (z:Str):Decidable (zuz z):=by unfold zuz; exact inferInstance
instance (z:Str):Decidable (Digs z):=by unfold Digs; exact inferInstance
def N13 (n:Int):Prop:=0<=n/\n<10000000000000
def N4 (q:Q4):Prop:=N13 q.1/\N13 q.2.1/\N13 q.2.2.1/\N13 q.2.2.2
theorem app_len (a b:Str):(a++b).length=a.length+b.length:=by
 show (a.cps++b.cps).size = _
 rw [Array.size_append]; rfl
end Sw
namespace PySem
open Sem (wp)
open Builtin Builtin.Str Builtin.Int
namespace F
end F
section
variable {prog:Program} {w:World} {A:Around} {E:Value->Shared->Prop} {s:Shared} {I:Addr} {fp wr:List Addr} {G:Array GenState->Array GenState->Prop} {n:Nat} {P:Nat->Value->Prop} {St:Nat->Shared->Prop}
end
end PySem
namespace L2
open PySem PySem.Spec PyProof.Rows
section
variable {X:Cx}
end
section
variable {X:Cx}
end
end L2
namespace Sw
open PySem L2 PyProof.Rows
def Below (h:Str):Prop:=h.cps.toList[0]? = some 45
instance (h:Str):Decidable (Below h):=by unfold Below; exact inferInstance
end Sw
namespace L2
open PySem PySem.Spec PyProof.Rows
end L2
namespace Sw
open PySem L2 PyProof.Rows
abbrev dg (n:Nat):List Char:=Nat.toDigits 10 n
end Sw
namespace L2
open PySem PySem.Spec PyProof.Rows
section
variable {X:Cx}
end
end L2
namespace L2
open PySem PySem.Spec PyProof.Rows PySem.MeetsSeq
section
variable {X:Cx}
end
end L2
namespace L2
open PySem PySem.Spec PyProof.Rows
section
variable {X:Cx}
end
def iVals (tl:TE):TI:=fun σ H R=>tl σ H fun x H1=>∃ a kvs,x = .ref a/\H1 a=some (.dK kvs)/\∀ o,R (Itva a o kvs) (upd H1 a (.frz o (.dK kvs)))
section
variable {X:Cx}
theorem zvy {o:Expr} {apos cpos:Pos} {tg:Expr} {tl:TE} (hl:PE X o tl) (hbase:attributeBase o "values" X.env (eval o X.env)=eval o X.env:=by rfl) (hline:(apos.endLine == cpos.line)=true:=by rfl) :
    PI X tg (.Call (.Attribute o "values" apos) [] [] cpos) (iVals tl):=by
  intro pins s σ H R I h
  refine wpAny_Call_method0_late hbase hline (thn (hl pins s σ H _ I h) fun v s1 ⟨x,H1,I1,r1,a,kvs,ex,ha,hall⟩=>?_)
  subst ex
  obtain rfl:v=Value.ref a:=r1
  obtain ⟨t1,t2,_⟩:=zph I1 (.inl ⟨kvs,.inl ha⟩)
  obtain ⟨z,hd,vs,rel,o',es,ep,ho,hx⟩:=dk_of I1.hok ha
  refine ⟨"dict", "dict.values", PySem.F.plainAttrs_dict,PySem.F.slot_dict_values,PySem.F.type_dict_values,t1,t2,Calls.callWith_builtin rfl (PySem.evalArgs_none ?_)⟩
  refine call_meetsIn PySem.F.slot_dict_values t1 PySem.F.entry_dict_values (PySem.F.args_dict_values_1 _) (meets_dict_values (zax X.prog X.w) a hd) ⟨⟨vs,o',es,ep,ho,hx⟩,?_⟩
  have Iv:Inv X pins σ H1 { s1 with heap:=s1.heap.push { cls:=.type "dict_values", data:=.fields #[.ref a] } }:=I1.kept (t':=s1.toks) fun b o e=>Heap.get?_push_of_some _ e
  have hov:(s1.heap.push { cls:=.type "dict_values", data:=.fields #[.ref a] }).get? a=some o':=Heap.get?_push_of_some _ ho
  have hvw:(s1.heap.push { cls:=.type "dict_values", data:=.fields #[.ref a] }).IsValuesView s1.heap.objs.size a:=⟨_,Heap.get?_push_size _ rfl,rfl,rfl⟩
  generalize s1.heap.push { cls:=.type "dict_values", data:=.fields #[.ref a] } = hv at Iv hov hvw ⊢
  refine wpAny_pyIter_values (s:={ s1 with heap:=hv }) (knd:=zax X.prog X.w) hvw ⟨o',es,hov,hx⟩ ?_
  have fresh:H1 hv.objs.size=none:=Iv.hok.fresh (Nat.le_refl _)
  have na:hv.objs.size≠a:=fun y=>by rw [y,ha] at fresh; cases fresh
  have I2:Inv X pins σ (upd H1 a (.frz o' (.dK kvs))) { s1 with heap:=hv.push { cls:=.type "dict_valueiterator", data:=.fields #[.ref a,.int 0 0,.int vs.length 0,.int ep 0] } } :=
    (Iv.kept (t':=s1.toks) fun b o e=>Heap.get?_push_of_some _ e).frozen ha (Heap.get?_push_of_some _ hov)
  refine ⟨hv.objs.size,[hv.objs.size],_,_,_,rfl,I2,zoa a _ rel hx,⟨_,Heap.get?_push_size _ rfl,rfl,rfl⟩,fun b hb=>?_,hall o'⟩
  have e:b=hv.objs.size:=by simpa using hb
  subst e
  have fp1:=Iv.fpOk (Nat.le_refl _) fresh
  exact ⟨by rw [zah na]; exact fresh,fp1.2⟩
end
theorem zso {a:Addr} {kvs:List (Key×V)} {o:Obj} {g:TG} {tc:TT} {te:TE} {D:Addr} {τ:St} {H:Hp} {Q:VK} (Pv:Nat->St->Hp->Prop) (h0:Pv 0 τ H) (hz:∀ i τ H,i<=kvs.length->Pv i τ H->H a=some (.frz o (.dK kvs)))
    (hs:∀ i kv τ H,kvs[i]? = some kv->Pv i τ H->g kv.2 τ H fun τ2 H3=>tc τ2 H3 fun b H4=>if b=true then te τ2 H4 fun y H5=>∃ ys,H5 D=some (.lst ys)/\ys.length<sizeLine/\Pv (i+1) τ2 (upd H5 D (.lst (ys++[y]))) else Pv (i+1) τ2 H4)
    (hd:∀ τ H,Pv kvs.length τ H->Q (.ref D) H):CompG (Itva a o kvs) g tc te D τ H Q:=by
  refine ⟨fun i m τ H=>m=kvs.length-i/\i<=kvs.length/\Pv i τ H,⟨kvs.length,by simp,Nat.zero_le _,h0⟩,?_⟩
  rintro i m τ H ⟨rfl,hi,p⟩
  have q:=hz i τ H hi p
  by_cases hlt:i<kvs.length
  · refine .inr ⟨⟨hlt,q⟩,Pv (i+1),fun τ' H' p'=>⟨kvs.length-(i+1),by omega,rfl,hlt,p'⟩,fun x H2 z=>?_⟩
    obtain ⟨rfl,kv,hkv,rfl⟩:=z
    exact hs i kv τ _ hkv p
  · have e:i=kvs.length:=by omega
    subst e
    exact .inl ⟨⟨Nat.le_refl _,q⟩,hd τ H p⟩
def rEqE:R2:=fun x y H Q=>∃ a b ka,x = .ref a/\y = .ref b/\Rd H a (.dK ka)/\Rd H b (.dK [])/\Q (.bl (decide (ka.length = 0))) H
theorem zya {X:Cx} (hu:X.A.units+66<cLine):OpR X (compareOp .Eq) rEqE:=by
 intro pins s σ H x y v u Q I rx ry h
 obtain ⟨a,b,ka,rfl,rfl,ha,hb,q⟩:=h
 cases (show v=Value.ref a from rx)
 cases (show u=Value.ref b from ry)
 obtain ⟨_,sa,va,ra,da⟩:=dk_rd I.hok ha
 obtain ⟨_,sb,vb,rb,db⟩:=dk_rd I.hok hb
 have lb:vb = []:=by have:=rb.length; simpa using this.symm
 subst lb
 refine PySem.W.keq_eq (r:=true) sa sb da db (by omega) (fun hl=>?_) ?_
 ·have:va = []:=by
   first | exact List.length_eq_zero_iff.mp (by simpa using hl) | simpa using hl
  subst this
  exact .nil
 ·refine ⟨.bl _,H,I,rfl,?_⟩
  have e:decide (ka.length = 0)=(va.length == ([]:List (Key×Value)).length && true):=by
   rw [ra.length,Bool.eq_iff_iff]
   simp
  rw [<- e]; exact q
end L2
namespace L2
open PySem PySem.Spec PyProof.Rows
structure Gnm (nm:Nm):Prop where
 nd:(nm.map (·.1)).Nodup
 sh:∀ x s,shOf nm x=some s->1<=s/\s<=1000000
 ok:∀ y∈nm.map (·.1),PyData.strOk y=true
theorem Gnm.nil:Gnm []:=⟨.nil,fun x s e=>by (cases e),fun y h=>absurd h List.not_mem_nil⟩
theorem Gnm.put {nm:Nm} (h:Gnm nm) {x:Str} {s:Int} (hx:shOf nm x=none) (s0:1<=s) (s1:s<=1000000) (ok:PyData.strOk x=true):Gnm (nm++[(x,s)]):=by
 refine ⟨?_,fun y t e=>?_,fun y hy=>?_⟩
 ·rw [List.map_append]
  exact List.nodup_append.mpr ⟨h.nd,by simp,fun y hy z hz=>by
   have:z=x:=by simpa using hz
   rw [this]
   intro e
   exact (Sw.sh_none.mp hx) (e ▸ hy)⟩
 ·rw [zhm hx] at e
  split at e
  ·cases e; exact ⟨s0,s1⟩
  ·exact h.sh y t e
 ·rw [List.map_append] at hy
  rcases List.mem_append.mp hy with z | z
  ·exact h.ok y z
  ·have:y=x:=by simpa using z
   rw [this]; exact ok
theorem Gnm.drop {nm:Nm} (h:Gnm nm) (x:Str):Gnm (dropN nm x):=by
 refine ⟨?_,fun y t e=>?_,fun y hy=>?_⟩
 ·rw [Sw.fst_drop]
  exact h.nd.filter _
 ·rw [zfp] at e
  split at e
  ·cases e
  ·exact h.sh y t e
 ·rw [Sw.fst_drop] at hy
  exact h.ok y (List.mem_filter.mp hy).1
inductive CSt
 | st (nm:Nm) (tg gs:Str->Option Rat) (ck:Rat) (ch:V) (N:Nat)
 | rd (nm:Nm) (q:List Str) (rs:Nm) (tu:Option Str) (ch:V)
def CSt.nm:CSt->Nm
 | .st nm _ _ _ _ _=>nm
 | .rd nm _ _ _ _=>nm
def CSt.sz:CSt->Nat
 | .st _ _ _ _ _ N=>N
 | .rd nm _ _ _ _=>nm.length
def CSt.Ok (m:Int):CSt->Prop
 | .st nm tg gs _ _ _=>Gnm nm/\∀ x,shOf nm x≠none->∃ t g,tg x=some t/\gs x=some g
 | .rd nm q rs tu _=>Gnm nm/\Sw.RI m nm q rs tu
def CSt.put (x:Str) (s:Int):CSt->CSt
 | .st nm tg gs ck ch N=>.st (nm++[(x,s)]) (setS tg x 0) (setS gs x 0) ck ch (N+3)
 | .rd nm q rs tu ch=>.rd (nm++[(x,s)]) (q++[x]) (rs++[(x,0)]) tu ch
def CSt.take (x:Str):CSt->CSt
 | .st nm tg gs ck ch N=>.st (dropN nm x) (delS tg x) (delS gs x) ck ch N
 | .rd nm q rs tu ch=>.rd (dropN nm x) (if tu=some x then q else q.erase x) (dropN rs x) (if tu=some x then none else tu) ch
def CSt.new (rounds:Bool):CSt:=if rounds then .rd [] [] [] none .non else .st [] (fun _=>none) (fun _=>none) 0 .non 0
theorem CSt.nm_put {x:Str} {s:Int} (c:CSt):(c.put x s).nm=c.nm++[(x,s)]:=by cases c <;> rfl
theorem CSt.nm_take {x:Str} (c:CSt):(c.take x).nm=dropN c.nm x:=by cases c <;> rfl
theorem CSt.nm_new (b:Bool):(CSt.new b).nm = []:=by cases b <;> rfl
def ChS (cS cR cM:Addr) (H:Hp) (a:At5) (m:Int):CSt->Prop
 | .st nm tg gs ck ch N=>Sx cS cM H a m nm tg gs ck ch N
 | .rd nm q rs tu ch=>Rx cR cM H a m nm q rs tu ch
def five (a:At5):List Addr:=[a.p,a.pm,a.ps,a.pt,a.pg]
theorem mem_five {a:At5} {b:Addr}:b∈five a↔b=a.p\/b=a.pm\/b=a.ps\/b=a.pt\/b=a.pg:=by
 unfold five; simp
section
variable {cS cR cM:Addr} {H H':Hp} {a:At5} {m:Int} {c:CSt}
theorem ChS.keep (h:ChS cS cR cM H a m c) (e:∀ b o,(b∈five a\/∃ xs,H b=some (.tup xs))->H b=some o->H' b=some o):ChS cS cR cM H' a m c:=by
 have e1:∀ b o,(b=a.p\/b=a.pm\/b=a.ps\/b=a.pt\/b=a.pg\/∃ xs,H b=some (.tup xs))->H b=some o->H' b=some o:=fun b o hb=>e b o (by
  rcases hb with z | z | z | z | z | z
  ·exact .inl (mem_five.mpr (.inl z))
  ·exact .inl (mem_five.mpr (.inr (.inl z)))
  ·exact .inl (mem_five.mpr (.inr (.inr (.inl z))))
  ·exact .inl (mem_five.mpr (.inr (.inr (.inr (.inl z)))))
  ·exact .inl (mem_five.mpr (.inr (.inr (.inr (.inr z)))))
  ·exact .inr z)
 cases c with
 | st nm tg gs ck ch N =>
  have S:Sx cS cM H a m nm tg gs ck ch N:=h
  obtain ⟨dx,fs,pr,h1,h2,h3⟩:=S.ex
  obtain ⟨dm,fm,m1,m2,m3,m4⟩:=S.mb.ex
  exact ⟨⟨dx,fs,pr,e1 _ _ (.inl rfl) h1,h2,e1 _ _ (.inr (.inr (.inr (.inr (.inr ⟨_,h3⟩))))) h3⟩,⟨⟨dm,fm,e1 _ _ (.inr (.inl rfl)) m1,m2,m3,m4⟩,e1 _ _ (.inr (.inr (.inl rfl))) S.mb.hs⟩,
   S.dt.keep fun b o hb=>e1 b o (hb.elim (fun z=>.inr (.inr (.inr (.inl z)))) fun z=>.inr (.inr (.inr (.inr (.inr z))))),S.dg.keep fun b o hb=>e1 b o (hb.elim (fun z=>.inr (.inr (.inr (.inr (.inl z))))) fun z=>.inr (.inr (.inr (.inr (.inr z))))),S.nl,S.n1,S.n2,S.n3,S.n4⟩
 | rd nm q rs tu ch =>
  have S:Rx cR cM H a m nm q rs tu ch:=h
  obtain ⟨dx,fs,h1,h2⟩:=S.ex
  obtain ⟨dm,fm,m1,m2,m3,m4⟩:=S.mb.ex
  exact ⟨⟨dx,fs,e1 _ _ (.inl rfl) h1,h2⟩,⟨⟨dm,fm,e1 _ _ (.inr (.inl rfl)) m1,m2,m3,m4⟩,e1 _ _ (.inr (.inr (.inl rfl))) S.mb.hs⟩,e1 _ _ (.inr (.inr (.inr (.inl rfl)))) S.hq,e1 _ _ (.inr (.inr (.inr (.inr (.inl rfl))))) S.hr,S.n3,S.n4⟩
theorem ChS.at (h:ChS cS cR cM H a m c) {b:Addr} (hb:b∈five a):∃ o,H b=some o/\∀ xs,o≠.tup xs:=by
 cases c with
 | st nm tg gs ck ch N =>
  have S:Sx cS cM H a m nm tg gs ck ch N:=h
  obtain ⟨dx,fs,pr,h1,h2,h3⟩:=S.ex
  obtain ⟨dm,fm,m1,_⟩:=S.mb.ex
  obtain ⟨kt,t1,_⟩:=S.dt.ex
  obtain ⟨kg,g1,_⟩:=S.dg.ex
  rcases mem_five.mp hb with z | z | z | z | z <;> subst z
  ·exact ⟨_,h1,by intro xs y; cases y⟩
  ·exact ⟨_,m1,by intro xs y; cases y⟩
  ·exact ⟨_,S.mb.hs,by intro xs y; cases y⟩
  ·exact ⟨_,t1,by intro xs y; cases y⟩
  ·exact ⟨_,g1,by intro xs y; cases y⟩
 | rd nm q rs tu ch =>
  have S:Rx cR cM H a m nm q rs tu ch:=h
  obtain ⟨dx,fs,h1,h2⟩:=S.ex
  obtain ⟨dm,fm,m1,_⟩:=S.mb.ex
  rcases mem_five.mp hb with z | z | z | z | z <;> subst z
  ·exact ⟨_,h1,by intro xs y; cases y⟩
  ·exact ⟨_,m1,by intro xs y; cases y⟩
  ·exact ⟨_,S.mb.hs,by intro xs y; cases y⟩
  ·exact ⟨_,S.hq,by intro xs y; cases y⟩
  ·exact ⟨_,S.hr,by intro xs y; cases y⟩
end
theorem ChS.nodup {cS cR cM:Addr} {H:Hp} {a:At5} {m:Int} {c:CSt} (h:ChS cS cR cM H a m c):(five a).Nodup:=by
 have go:a.p≠a.pm->a.p≠a.ps->a.p≠a.pt->a.p≠a.pg->a.pm≠a.ps->a.pm≠a.pt->a.pm≠a.pg->a.ps≠a.pt->a.ps≠a.pg->a.pt≠a.pg->(five a).Nodup:=by
  intro h1 h2 h3 h4 h5 h6 h7 h8 h9 h10
  unfold five
  simp [h1,h2,h3,h4,h5,h6,h7,h8,h9,h10]
 cases c with
 | st nm tg gs ck ch N =>
  have S:Sx cS cM H a m nm tg gs ck ch N:=h
  obtain ⟨dx,fs,pr,h1,h2,h3⟩:=S.ex
  obtain ⟨dm,fm,m1,_⟩:=S.mb.ex
  obtain ⟨kt,t1,_⟩:=S.dt.ex
  obtain ⟨kg,g1,_⟩:=S.dg.ex
  exact go S.n4 (ne_of h1 S.mb.hs (by intro z; cases z)) (ne_of h1 t1 (by intro z; cases z)) (ne_of h1 g1 (by intro z; cases z)) (ne_of m1 S.mb.hs (by intro z; cases z)) (ne_of m1 t1 (by intro z; cases z)) (ne_of m1 g1 (by intro z; cases z)) S.n2.symm S.n3.symm S.n1
 | rd nm q rs tu ch =>
  have S:Rx cR cM H a m nm q rs tu ch:=h
  obtain ⟨dx,fs,h1,h2⟩:=S.ex
  obtain ⟨dm,fm,m1,_⟩:=S.mb.ex
  exact go S.n4 (ne_of h1 S.mb.hs (by intro z; cases z)) (ne_of h1 S.hq (by intro z; cases z)) (ne_of h1 S.hr (by intro z; cases z)) (ne_of m1 S.mb.hs (by intro z; cases z)) (ne_of m1 S.hq (by intro z; cases z)) (ne_of m1 S.hr (by intro z; cases z)) (ne_of S.mb.hs S.hq (by intro z; cases z)) S.n3.symm (ne_of S.hq S.hr (by intro z; cases z))
section
variable {m:Int} {c:CSt} {x:Str} {s:Int}
theorem CSt.Ok.put (h:c.Ok m) (hx:shOf c.nm x=none) (s0:1<=s) (s1:s<=1000000) (ok:PyData.strOk x=true):(c.put x s).Ok m:=by
 cases c with
 | st nm tg gs ck ch N =>
  refine ⟨h.1.put hx s0 s1 ok,fun y hy=>?_⟩
  unfold setS
  by_cases e:y=x
  ·rw [if_pos e,if_pos e]; exact ⟨_,_,rfl,rfl⟩
  ·have hx:shOf nm x=none:=hx
   rw [zhm hx,if_neg e] at hy
   rw [if_neg e,if_neg e]; exact h.2 y hy
 | rd nm q rs tu ch=>exact ⟨h.1.put hx s0 s1 ok,h.2.put hx s0 s1⟩
theorem CSt.Ok.take (h:c.Ok m) (hx:shOf c.nm x≠none):(c.take x).Ok m:=by
 cases c with
 | st nm tg gs ck ch N =>
  refine ⟨h.1.drop x,fun y hy=>?_⟩
  unfold delS
  by_cases e:y=x
  ·rw [zfp,if_pos e] at hy; exact absurd rfl hy
  ·rw [zfp,if_neg e] at hy
   rw [if_neg e,if_neg e]; exact h.2 y hy
 | rd nm q rs tu ch=>exact ⟨h.1.drop x,h.2.take hx⟩
theorem CSt.Ok.new (h:1<=m) (b:Bool):(CSt.new b).Ok m:=by
 cases b with
 | true=>exact ⟨Gnm.nil,.nil h⟩
 | false=>exact ⟨Gnm.nil,fun y hy=>absurd rfl hy⟩
end
def Deed (S:List Addr) (H H':Hp):Prop:=∀ b o,b ∉ S->H b=some o->H' b=some o
theorem Deed.mono {S S':List Addr} {H H1:Hp} (x:Deed S H H1) (h:∀ b∈S,b∈S'):Deed S' H H1:=fun b o n e=>x b o (fun z=>n (h b z)) e
theorem Own.deed {a:At5} {H H':Hp} (w:Own a H H'):Deed (five a) H H':=fun b o n e=>by
 rw [mem_five] at n
 exact w b o (fun z=>n (.inl z)) (fun z=>n (.inr (.inr (.inl z)))) (fun z=>n (.inr (.inr (.inr (.inl z))))) (fun z=>n (.inr (.inr (.inr (.inr z))))) e
theorem ztu {S:List Addr} {H:Hp} {b:Addr} {o:HO} (h:b∈S):Deed S H (upd H b o):=fun c u n e=>by
 have:c≠b:=fun z=>n (by rw [z]; exact h)
 rw [zah this]; exact e
structure FN (fs:List (Str×V)) (ab ch rm bk:V) (ql:Addr):Prop where
 ab:fs.lookup ("above" : Str)=some ab
 ch:fs.lookup ("chooser" : Str)=some ch
 rm:fs.lookup ("room" : Str)=some rm
 bk:fs.lookup ("bucket" : Str)=some bk
 qu:fs.lookup ("queue" : Str)=some (.ref ql)
 no:∀ m:Str,¬ m = "above" -> ¬ m = "chooser" -> ¬ m = "room" -> ¬ m = "bucket" -> ¬ m = "queue" -> fs.lookup m=none
 len:fs.length<900
theorem FN.mk0 (ab ch rm bk:V) (ql:Addr):FN (putF "queue" (.ref ql) (putF "bucket" bk (putF "room" rm (putF "chooser" ch (putF "above" ab []))))) ab ch rm bk ql:=by
 refine ⟨?_,?_,?_,?_,?_,fun m h1 h2 h3 h4 h5=>?_,?_⟩
 ·rw [zaj (by decide +kernel),zaj (by decide +kernel),zaj (by decide +kernel),zaj (by decide +kernel),zbt]
 ·rw [zaj (by decide +kernel),zaj (by decide +kernel),zaj (by decide +kernel),zbt]
 ·rw [zaj (by decide +kernel),zaj (by decide +kernel),zbt]
 ·rw [zaj (by decide +kernel),zbt]
 ·rw [zbt]
 ·rw [zaj h5,zaj h4,zaj h3,zaj h2,zaj h1]; rfl
 ·have l1:=zan (fs:=[]) (f := "above") (v:=ab)
  have l2:=zan (fs:=putF "above" ab []) (f := "chooser") (v:=ch)
  have l3:=zan (fs:=putF "chooser" ch (putF "above" ab [])) (f := "room") (v:=rm)
  have l4:=zan (fs:=putF "room" rm (putF "chooser" ch (putF "above" ab []))) (f := "bucket") (v:=bk)
  have l5:=zan (fs:=putF "bucket" bk (putF "room" rm (putF "chooser" ch (putF "above" ab [])))) (f := "queue") (v:=.ref ql)
  simp only [List.length_nil] at l1
  omega
structure BkS where
 d:Int
 r:Rat
 s:Int
 l:Rat
structure ND where
 nm:Str
 p:Addr
 ql:Addr
 ab:Option Str
 ch:Option (At5×CSt)
 rm:V
 bk:Option (Addr×BkS)
 ps:List Addr
 qu:List D2
structure Cl where
 n:Addr
 s:Addr
 r:Addr
 m:Addr
 b:Addr
 t:Addr
def chF:Option (At5×CSt)->List Addr
 | none=>[]
 | some c=>five c.1
def bkF:Option (Addr×BkS)->List Addr
 | none=>[]
 | some b=>[b.1]
def ND.foot (x:ND):List Addr:=x.p :: x.ql :: (chF x.ch++bkF x.bk)
def chV:Option (At5×CSt)->V
 | none=>.non
 | some c=>.ref c.1.p
def bkV:Option (Addr×BkS)->V
 | none=>.non
 | some b=>.ref b.1
structure NdOk (C:Cl) (H:Hp) (m:Int) (x:ND):Prop where
 ex:∃ dx fs,H x.p=some (.ins C.n dx fs)/\FN fs (optS x.ab) (chV x.ch) x.rm (bkV x.bk) x.ql
 qu:Gos H x.ql x.ps x.qu
 ch:∀ c,x.ch=some c->ChS C.s C.r C.m H c.1 m c.2
 bk:∀ b,x.bk=some b->Bk C.b H b.1 b.2.d b.2.r b.2.s b.2.l
section
variable {C:Cl} {H H':Hp} {m:Int} {x:ND}
theorem NdOk.keep (h:NdOk C H m x) (e:∀ b o,(b∈x.foot\/∃ xs,H b=some (.tup xs))->H b=some o->H' b=some o):NdOk C H' m x:=by
 obtain ⟨dx,fs,h1,h2⟩:=h.ex
 refine ⟨⟨dx,fs,e _ _ (.inl (List.mem_cons_self ..)) h1,h2⟩,⟨e _ _ (.inl (List.mem_cons_of_mem _ (List.mem_cons_self ..))) h.qu.hl,h.qu.r.keep fun p z hp=>e _ _ (.inr ⟨_,hp⟩) hp⟩,fun c hc=>?_,fun b hb=>?_⟩
 ·refine (h.ch c hc).keep fun b o hb=>e b o (hb.imp (fun z=>?_) id)
  refine List.mem_cons_of_mem _ (List.mem_cons_of_mem _ (List.mem_append.mpr (.inl ?_)))
  rw [hc]; exact z
 ·obtain ⟨dx',fs',pr,pl,b1,b2,b3,b4⟩:=(h.bk b hb).ex
  refine ⟨dx',fs',pr,pl,e _ _ (.inl ?_) b1,b2,e _ _ (.inr ⟨_,b3⟩) b3,e _ _ (.inr ⟨_,b4⟩) b4⟩
  refine List.mem_cons_of_mem _ (List.mem_cons_of_mem _ (List.mem_append.mpr (.inr ?_)))
  rw [hb]; exact List.mem_singleton.mpr rfl
theorem NdOk.at (h:NdOk C H m x) {b:Addr} (hb:b∈x.foot):∃ o,H b=some o/\∀ xs,o≠.tup xs:=by
 unfold ND.foot at hb
 rcases List.mem_cons.mp hb with z | hb
 ·obtain ⟨dx,fs,h1,h2⟩:=h.ex
  subst z
  exact ⟨_,h1,by intro xs y; cases y⟩
 rcases List.mem_cons.mp hb with z | hb
 ·subst z
  exact ⟨_,h.qu.hl,by intro xs y; cases y⟩
 rcases List.mem_append.mp hb with z | z
 ·cases hc:x.ch with
  | none=>rw [hc] at z; cases z
  | some c=>rw [hc] at z; exact (h.ch c hc).at z
 ·cases hc:x.bk with
  | none=>rw [hc] at z; cases z
  | some c =>
   rw [hc] at z
   obtain ⟨dx',fs',pr,pl,b1,_⟩:=(h.bk c hc).ex
   have:b=c.1:=List.mem_singleton.mp z
   subst this
   exact ⟨_,b1,by intro xs y; cases y⟩
theorem NdOk.deed {S:List Addr} (h:NdOk C H m x) (d:Deed S H H') (f:∀ b∈x.foot,b ∉ S) (nt:∀ b∈S,∀ xs,H b≠some (.tup xs)):NdOk C H' m x :=
 h.keep fun b o hb e=>d b o (hb.elim (fun z=>f b z) fun ⟨xs,z⟩ y=>nt b y xs z) e
end
theorem NdOk.new {C:Cl} {H3 H4:Hp} {m:Int} {nm:Str} {x dx ql:Addr} {fs:List (Str×V)} {ab:Option Str} {ch:Option (At5×CSt)} {rm:V} (hx:H3 x=none) (hd:H3 dx=none) (bt:But x (upd (upd H3 dx (.own x)) x (.ins C.n dx [])) H4) (hq:upd (upd H3 dx (.own x)) x (.ins C.n dx []) ql=none) (h1:H4 x=some (.ins C.n dx fs)) (h2:FN fs (optS ab) (chV ch) rm .non ql) (h3:H4 ql=some (.lst [])) (hc:∀ c,ch=some c->ChS C.s C.r C.m H3 c.1 m c.2) :
    Same H3 H4/\NdOk C H4 m ⟨nm,x,ql,ab,ch,rm,none,[],[]⟩/\(ND.foot ⟨nm,x,ql,ab,ch,rm,none,[],[]⟩).Nodup/\H3 ql=none:=by
  have sm:Same H3 H4:=fun b o e=>bt b o (zao e hx) (zdr hx hd _ _ e)
  have nql:ql≠x:=fun z=>by rw [z,zab] at hq; cases hq
  have q3:H3 ql=none:=by
    rw [zah nql] at hq
    by_cases e:ql=dx
    · rw [e,zab] at hq; cases hq
    · rw [zah e] at hq; exact hq
  refine ⟨sm,⟨⟨dx,fs,h1,h2⟩,⟨h3,.nil⟩,fun c e=>(hc c e).keep fun b o _ e=>sm b o e,fun b e=>(by cases e)⟩,?_,q3⟩
  show (x :: ql :: (chF ch++[])).Nodup
  rw [List.append_nil]
  cases ch with
  | none=>simp [chF,nql.symm]
  | some c =>
    have C1:=hc c rfl
    have n1:x ∉ five c.1:=fun z=>by
      obtain ⟨o,ho,_⟩:=C1.at z
      rw [hx] at ho; cases ho
    have n2:ql ∉ five c.1:=fun z=>by
      obtain ⟨o,ho,_⟩:=C1.at z
      rw [q3] at ho; cases ho
    rw [List.nodup_cons,List.nodup_cons]
    exact ⟨by rw [List.mem_cons,not_or]; exact ⟨nql.symm,n1⟩,n2,C1.nodup⟩
structure FTr (fs:List (Str×V)) (m:Int) (pn:Addr) (tm fr ct:Int) (pg:Addr):Prop where
 mo:fs.lookup ("most" : Str)=some (.int m)
 no:fs.lookup ("nodes" : Str)=some (.ref pn)
 ti:fs.lookup ("time" : Str)=some (.int tm)
 fr:fs.lookup ("free" : Str)=some (.int fr)
 co:fs.lookup ("counted" : Str)=some (.int ct)
 go:fs.lookup ("gone" : Str)=some (.ref pg)
 mis:∀ m:Str,¬ m = "most" -> ¬ m = "nodes" -> ¬ m = "time" -> ¬ m = "free" -> ¬ m = "counted" -> ¬ m = "gone" -> fs.lookup m=none
 len:fs.length<900
theorem FTr.mk0 (m:Int) (pn:Addr) (tm fr ct:Int) (pg:Addr):FTr (putF "gone" (.ref pg) (putF "counted" (.int ct) (putF "free" (.int fr) (putF "time" (.int tm) (putF "nodes" (.ref pn) (putF "most" (.int m) [])))))) m pn tm fr ct pg:=by
 refine ⟨?_,?_,?_,?_,?_,?_,fun m h1 h2 h3 h4 h5 h6=>?_,?_⟩
 ·rw [zaj (by decide +kernel),zaj (by decide +kernel),zaj (by decide +kernel),zaj (by decide +kernel),zaj (by decide +kernel),zbt]
 ·rw [zaj (by decide +kernel),zaj (by decide +kernel),zaj (by decide +kernel),zaj (by decide +kernel),zbt]
 ·rw [zaj (by decide +kernel),zaj (by decide +kernel),zaj (by decide +kernel),zbt]
 ·rw [zaj (by decide +kernel),zaj (by decide +kernel),zbt]
 ·rw [zaj (by decide +kernel),zbt]
 ·rw [zbt]
 ·rw [zaj h6,zaj h5,zaj h4,zaj h3,zaj h2,zaj h1]; rfl
 ·have a1:=zan (fs:=[]) (f := "most") (v:=.int m)
  have a2:=zan (fs:=putF "most" (.int m) []) (f := "nodes") (v:=.ref pn)
  have a3:=zan (fs:=putF "nodes" (.ref pn) (putF "most" (.int m) [])) (f := "time") (v:=.int tm)
  have a4:=zan (fs:=putF "time" (.int tm) (putF "nodes" (.ref pn) (putF "most" (.int m) []))) (f := "free") (v:=.int fr)
  have a5:=zan (fs:=putF "free" (.int fr) (putF "time" (.int tm) (putF "nodes" (.ref pn) (putF "most" (.int m) [])))) (f := "counted") (v:=.int ct)
  have a6:=zan (fs:=putF "counted" (.int ct) (putF "free" (.int fr) (putF "time" (.int tm) (putF "nodes" (.ref pn) (putF "most" (.int m) []))))) (f := "gone") (v:=.ref pg)
  simp only [List.length_nil] at a1
  omega
theorem FTr.put_co {fs:List (Str×V)} {m:Int} {pn:Addr} {tm fr ct ct':Int} {pg:Addr} (h:FTr fs m pn tm fr ct pg):FTr (putF "counted" (.int ct') fs) m pn tm fr ct' pg:=by
 refine ⟨?_,?_,?_,?_,zbt,?_,fun m h1 h2 h3 h4 h5 h6=>?_,?_⟩
 ·rw [zaj (by decide +kernel)]; exact h.mo
 ·rw [zaj (by decide +kernel)]; exact h.no
 ·rw [zaj (by decide +kernel)]; exact h.ti
 ·rw [zaj (by decide +kernel)]; exact h.fr
 ·rw [zaj (by decide +kernel)]; exact h.go
 ·rw [zaj h5]; exact h.mis m h1 h2 h3 h4 h5 h6
 ·rw [zlb h.co]; exact h.len
abbrev D3:=Int×Int×Str
def d3V (g:D3):List V:=[.int g.1,.int g.2.1,.str g.2.2]
structure TD where
 p:Addr
 pn:Addr
 pg:Addr
 most:Int
 tm:Int
 fr:Int
 ct:Int
 ns:List ND
 gp:List Addr
 gs:List D3
def TD.foot (D:TD):List Addr:=D.p :: D.pn :: D.pg :: D.ns.flatMap ND.foot
def ndK (ns:List ND):List (Key×V):=ns.map fun x=>((Sum.inr x.nm:Key),V.ref x.p)
structure TrOk (C:Cl) (H:Hp) (D:TD):Prop where
 ex:∃ dx fs,H D.p=some (.ins C.t dx fs)/\FTr fs D.most D.pn D.tm D.fr D.ct D.pg
 hn:H D.pn=some (.dK (ndK D.ns))
 nd:∀ x∈D.ns,NdOk C H D.most x
 go:H D.pg=some (.lst (D.gp.map V.ref))
 gr:Paired (fun p g=>H p=some (.tup (d3V g))) D.gp D.gs
 fd:D.foot.Nodup
theorem zds {α β:Type} {R S:α->β->Prop} (h:∀ a b,R a b->S a b):∀ {l:List α} {k:List β},Paired R l k->Paired S l k
 | _,_,.nil=>.nil
 | _,_,.cons a b=>.cons (h _ _ a) (zds h b)
section
variable {C:Cl} {H H':Hp} {D:TD}
theorem TD.mem_node {x:ND} {b:Addr} (hx:x∈D.ns) (hb:b∈x.foot):b∈D.foot :=
 List.mem_cons_of_mem _ (List.mem_cons_of_mem _ (List.mem_cons_of_mem _ (List.mem_flatMap.mpr ⟨x,hx,hb⟩)))
theorem TrOk.keep (h:TrOk C H D) (e:∀ b o,(b∈D.foot\/∃ xs,H b=some (.tup xs))->H b=some o->H' b=some o):TrOk C H' D:=by
 obtain ⟨dx,fs,h1,h2⟩:=h.ex
 exact ⟨⟨dx,fs,e _ _ (.inl (List.mem_cons_self ..)) h1,h2⟩,e _ _ (.inl (List.mem_cons_of_mem _ (List.mem_cons_self ..))) h.hn,fun x hx=>(h.nd x hx).keep fun b o hb=>e b o (hb.imp (fun z=>TD.mem_node hx z) id),e _ _ (.inl (List.mem_cons_of_mem _ (List.mem_cons_of_mem _ (List.mem_cons_self ..)))) h.go,zds (fun a b z=>e _ _ (.inr ⟨_,z⟩) z) h.gr,h.fd⟩
theorem TrOk.same (h:TrOk C H D) (s:Same H H'):TrOk C H' D:=h.keep fun b o _ e=>s b o e
theorem TrOk.at (h:TrOk C H D) {b:Addr} (hb:b∈D.foot):∃ o,H b=some o/\∀ xs,o≠.tup xs:=by
 unfold TD.foot at hb
 rcases List.mem_cons.mp hb with z | hb
 ·obtain ⟨dx,fs,h1,h2⟩:=h.ex
  subst z; exact ⟨_,h1,by intro xs y; cases y⟩
 rcases List.mem_cons.mp hb with z | hb
 ·subst z; exact ⟨_,h.hn,by intro xs y; cases y⟩
 rcases List.mem_cons.mp hb with z | hb
 ·subst z; exact ⟨_,h.go,by intro xs y; cases y⟩
 obtain ⟨x,hx,z⟩:=List.mem_flatMap.mp hb
 exact (h.nd x hx).at z
theorem TrOk.free (h:TrOk C H D) {b:Addr} (e:H b=none):b ∉ D.foot:=fun z=>by
 obtain ⟨o,ho,_⟩:=h.at z
 rw [ho] at e; cases e
theorem TrOk.notup (h:TrOk C H D) {b:Addr} {xs:List V} (e:H b=some (.tup xs)):b ∉ D.foot:=fun z=>by
 obtain ⟨o,ho,n⟩:=h.at z
 rw [ho] at e; exact n xs (Option.some.inj e)
theorem TrOk.other (h:TrOk C H D) {b:Addr} {o o':HO} (f:b ∉ D.foot) (e:H b=some o) (nt:∀ xs,o≠.tup xs):TrOk C (upd H b o') D:=by
 refine h.keep fun c u hc hu=>?_
 rw [zah fun z=>?_]
 ·exact hu
 ·subst z
  rcases hc with z | ⟨xs,z⟩
  ·exact f z
  ·rw [e] at z; exact nt xs (Option.some.inj z)
end
def fndN (ns:List ND) (x:Str):Option ND:=ns.find? fun n=>decide (n.nm=x)
theorem zbm {ns:List ND} {x:Str} {n:ND} (h:fndN ns x=some n):n∈ns/\n.nm=x:=by
 unfold fndN at h
 exact ⟨List.mem_of_find?_eq_some h,of_decide_eq_true (List.find?_some (p:=fun n:ND=>decide (n.nm=x)) h)⟩
theorem fnd_none {ns:List ND} {x:Str}:fndN ns x=none↔x ∉ ns.map (·.nm):=by
 unfold fndN
 rw [List.find?_eq_none]
 constructor
 ·intro h z
  obtain ⟨n,hn,e⟩:=List.mem_map.mp z
  exact h n hn (decide_eq_true e)
 ·intro h n hn e
  exact h (List.mem_map.mpr ⟨n,hn,of_decide_eq_true e⟩)
theorem zee {ns:List ND} (nd:(ns.map (·.nm)).Nodup) {n:ND} (h:n∈ns):fndN ns n.nm=some n:=by
 induction ns with
 | nil=>cases h
 | cons y r ih =>
  rw [List.map_cons,List.nodup_cons] at nd
  unfold fndN
  rw [List.find?_cons]
  rcases List.mem_cons.mp h with e | e
  ·subst e; simp
  ·have ne:decide (y.nm=n.nm)=false:=decide_eq_false fun z=>nd.1 (by rw [z]; exact List.mem_map.mpr ⟨n,e,rfl⟩)
   rw [ne]
   exact ih nd.2 e
theorem zhw (ns:List ND) (x:Str):valV (ndK ns) (Sum.inr x:Key)=(fndN ns x).map fun n=>V.ref n.p:=by
 induction ns with
 | nil=>rfl
 | cons p r ih =>
  unfold valV ndK fndN at ih ⊢
  rw [List.map_cons,List.find?_cons,List.find?_cons]
  by_cases h:p.nm=x
  ·simp [h]
  ·have h2:¬ (Sum.inr p.nm:Key)=Sum.inr x:=fun z=>h (Sum.inr.inj z)
   simp only [decide_eq_false h,decide_eq_false h2]
   exact ih
theorem zvz (ns:List ND):(ndK ns).length=ns.length:=List.length_map _
theorem zwa {ns:List ND} {n:ND} (h:fndN ns n.nm=none):putK (ndK ns) (Sum.inr n.nm:Key) (.ref n.p)=ndK (ns++[n]):=by
 unfold putK
 have e:((ndK ns).any fun kv=>decide (kv.1=(Sum.inr n.nm:Key)))=false:=by
  rw [zfk,zhw,h]; rfl
 rw [e,if_neg (by decide)]
 unfold ndK
 rw [List.map_append]; rfl
theorem zwb {ns:List ND} {n:ND} (h:fndN ns n.nm=none) (x:Str):fndN (ns++[n]) x=if x=n.nm then some n else fndN ns x:=by
 unfold fndN at h ⊢
 rw [List.find?_append]
 by_cases e:x=n.nm
 ·subst e
  rw [if_pos rfl,h]; simp
 ·rw [if_neg e]
  have:([n].find? fun y=>decide (y.nm=x))=none:=by
   have:¬ n.nm=x:=fun z=>e z.symm
   simp [this]
  rw [this]; simp
def setN (ns:List ND) (n:ND):List ND:=ns.map fun y=>if y.nm=n.nm then n else y
theorem zob (ns:List ND) (n:ND):(setN ns n).map (·.nm)=ns.map (·.nm):=by
 unfold setN
 rw [List.map_map]
 refine List.map_congr_left fun y _=>?_
 show (if y.nm=n.nm then n else y).nm=y.nm
 split
 ·rename_i h; exact h.symm
 ·rfl
theorem zjc {ns:List ND} {n:ND} (x:Str):fndN (setN ns n) x=if x=n.nm then (fndN ns x).map (fun _=>n) else fndN ns x:=by
 induction ns with
 | nil=>unfold fndN setN; simp
 | cons p r ih =>
  unfold fndN setN at ih ⊢
  rw [List.map_cons,List.find?_cons,List.find?_cons]
  by_cases hp:p.nm=n.nm
  ·rw [if_pos hp]
   by_cases hy:p.nm=x
   ·have:n.nm=x:=hp ▸ hy
    simp [hy,this]
   ·have:¬ n.nm=x:=hp ▸ hy
    simp only [decide_eq_false hy,decide_eq_false this]
    exact ih
  ·rw [if_neg hp]
   by_cases hy:p.nm=x
   ·have:¬ x=n.nm:=fun z=>hp (hy.trans z)
    simp [hy,this]
   ·simp only [decide_eq_false hy]
    exact ih
theorem zmt {l1 l2:List ND} {n n':ND} (e:n'.nm=n.nm) (nd:((l1++n :: l2).map (·.nm)).Nodup):setN (l1++n :: l2) n'=l1++n' :: l2:=by
 unfold setN
 rw [List.map_append,List.nodup_append,List.map_cons,List.nodup_cons] at nd
 rw [List.map_append,List.map_cons,if_pos e.symm]
 have h1:l1.map (fun y=>if y.nm=n'.nm then n' else y)=l1:=by
  conv=>rhs; rw [<- List.map_id l1]
  refine List.map_congr_left fun y hy=>?_
  rw [if_neg]; rfl
  intro z
  exact nd.2.2 y.nm (List.mem_map.mpr ⟨y,hy,rfl⟩) n.nm (List.mem_cons_self ..) (z.trans e)
 have h2:l2.map (fun y=>if y.nm=n'.nm then n' else y)=l2:=by
  conv=>rhs; rw [<- List.map_id l2]
  refine List.map_congr_left fun y hy=>?_
  rw [if_neg]; rfl
  intro z
  exact nd.2.1.1 (List.mem_map.mpr ⟨y,hy,z.trans e⟩)
 rw [h1,h2]
section
variable {C:Cl} {H H':Hp} {D:TD}
theorem TrOk.node (h:TrOk C H D) (nd:(D.ns.map (·.nm)).Nodup) {n n':ND} (hn:n∈D.ns) (e:n'.nm=n.nm) (ep:n'.p=n.p) (d:Deed n.foot H H') (ok:NdOk C H' D.most n') (fn:n'.foot.Nodup) (fr:∀ b∈n'.foot,b∈n.foot\/H b=none):TrOk C H' { D with ns:=setN D.ns n' }:=by
 obtain ⟨l1,l2,el⟩:=List.append_of_mem hn
 have fd:=h.fd
 unfold TD.foot at fd
 rw [el,List.flatMap_append,List.flatMap_cons] at fd
 simp only [List.nodup_cons,List.mem_cons,List.mem_append,not_or,List.nodup_append] at fd
 obtain ⟨⟨a1,a2,a3,a4,a5⟩,⟨b1,b2,b3,b4⟩,⟨c1,c2,c3⟩,d1,⟨d2,d3,d4⟩,d5⟩:=fd
 have nt:∀ b∈n.foot,∀ xs,H b≠some (.tup xs):=fun b hb xs z=>by
  obtain ⟨o,ho,q⟩:=(h.nd n hn).at hb
  rw [ho] at z; exact q xs (Option.some.inj z)
 obtain ⟨dx,fs,h1,h2⟩:=h.ex
 have new:∀ {b:Addr} {o:HO},H b=some o->b ∉ n.foot->b ∉ n'.foot:=fun {b o} ho hb z=>by
  rcases fr b z with y | y
  ·exact hb y
  ·rw [ho] at y; cases y
 have sp:setN D.ns n'=l1++n' :: l2:=by
  rw [el] at nd ⊢
  exact zmt e nd
 have hs:∀ {b:Addr},b∈D.foot->∃ o,H b=some o:=fun {b} hb=>(h.at hb).imp fun _ z=>z.1
 refine ⟨⟨dx,fs,d _ _ a4 h1,h2⟩,?_,fun x hx=>?_,d _ _ c2 h.go,zds (fun p g z=>d _ _ (fun y=>nt p y _ z) z) h.gr,?_⟩
 ·show H' D.pn=some (.dK (ndK (setN D.ns n')))
  have:ndK (setN D.ns n')=ndK D.ns:=by
   rw [sp,el]
   unfold ndK
   rw [List.map_append,List.map_append,List.map_cons,List.map_cons,e,ep]
  rw [this]
  exact d _ _ b3 h.hn
 ·have hx:x∈l1++n' :: l2:=sp ▸ hx
  have old:x∈D.ns->(∀ b∈x.foot,b ∉ n.foot)->NdOk C H' D.most x:=fun h1 h2=>(h.nd x h1).deed d h2 nt
  rcases List.mem_append.mp hx with z | z
  ·exact old (el ▸ List.mem_append.mpr (.inl z)) fun b hb y=>d5 b (List.mem_flatMap.mpr ⟨x,z,hb⟩) b (.inl y) rfl
  ·rcases List.mem_cons.mp z with z | z
   ·rw [z]; exact ok
   ·exact old (el ▸ List.mem_append.mpr (.inr (List.mem_cons_of_mem _ z))) fun b hb y=>d4 b y b (List.mem_flatMap.mpr ⟨x,z,hb⟩) rfl
 ·show (D.p :: D.pn :: D.pg :: (setN D.ns n').flatMap ND.foot).Nodup
  rw [sp,List.flatMap_append,List.flatMap_cons]
  simp only [List.nodup_cons,List.mem_cons,List.mem_append,not_or,List.nodup_append]
  have hl1:∀ {b:Addr},b∈l1.flatMap ND.foot->∃ o,H b=some o:=fun {b} hb=>by
   obtain ⟨x,hx,y⟩:=List.mem_flatMap.mp hb
   exact hs (TD.mem_node (el ▸ List.mem_append.mpr (.inl hx)) y)
  have hl2:∀ {b:Addr},b∈l2.flatMap ND.foot->∃ o,H b=some o:=fun {b} hb=>by
   obtain ⟨x,hx,y⟩:=List.mem_flatMap.mp hb
   exact hs (TD.mem_node (el ▸ List.mem_append.mpr (.inr (List.mem_cons_of_mem _ hx))) y)
  refine ⟨⟨a1,a2,a3,new h1 a4,a5⟩,⟨b1,b2,new h.hn b3,b4⟩,⟨c1,new h.go c2,c3⟩,d1,⟨fn,d3,fun b hb c hc z=>?_⟩,fun b hb c hc z=>?_⟩
  ·subst z
   obtain ⟨o,ho⟩:=hl2 hc
   exact new ho (fun y=>d4 b y b hc rfl) hb
  ·subst z
   obtain ⟨o,ho⟩:=hl1 hb
   rcases hc with y | y
   ·exact new ho (fun q=>d5 b hb b (.inl q) rfl) y
   ·exact d5 b hb b (.inr y) rfl
end
end L2
namespace L2
open PySem PySem.Spec PyProof.Rows
def road:Str:=Str.ofString "road"
inductive Up (ns:List ND):Str->List Str->Prop
 | top {x:Str} {n:ND}:fndN ns x=some n->n.ab=none->Up ns x [x]
 | on {x y:Str} {n:ND} {ys:List Str}:fndN ns x=some n->n.ab=some y->Up ns y ys->Up ns x (x :: ys)
theorem Up.fnd {ns:List ND} {x:Str} {ys:List Str} (h:Up ns x ys):∃ n,fndN ns x=some n:=by
 cases h with
 | top h _=>exact ⟨_,h⟩
 | on h _ _=>exact ⟨_,h⟩
theorem Up.det {ns:List ND} {x:Str} {ys zs:List Str} (h:Up ns x ys):Up ns x zs->ys=zs:=by
 induction h generalizing zs with
 | top h e =>
  intro k
  cases k with
  | top _ _=>rfl
  | on h2 e2 _=>rw [h] at h2; cases h2; rw [e] at e2; cases e2
 | on h e r ih =>
  intro k
  cases k with
  | top h2 e2=>rw [h] at h2; cases h2; rw [e] at e2; cases e2
  | on h2 e2 r2 =>
   rw [h] at h2; cases h2; rw [e] at e2; cases e2
   rw [ih r2]
theorem Up.mono {ns ns':List ND} {x:Str} {ys:List Str} (h:Up ns x ys):(∀ z∈ys,∀ n,fndN ns z=some n->∃ n',fndN ns' z=some n'/\n'.ab=n.ab)->Up ns' x ys:=by
 induction h with
 | top h e =>
  intro k
  obtain ⟨n',h1,h2⟩:=k _ (List.mem_cons_self ..) _ h
  exact .top h1 (h2.trans e)
 | on h e r ih =>
  intro k
  obtain ⟨n',h1,h2⟩:=k _ (List.mem_cons_self ..) _ h
  exact .on h1 (h2.trans e) (ih fun z hz=>k z (List.mem_cons_of_mem _ hz))
theorem Up.pos {ns:List ND} {x:Str} {ys:List Str} (h:Up ns x ys):1<=ys.length:=by
 cases h <;> simp
def kids (ns:List ND) (x:Str):List Str:=(ns.filter fun n=>decide (n.ab=some x)).map (·.nm)
structure TD.Wf (D:TD):Prop where
 nn:(D.ns.map (·.nm)).Nodup
 rd:∃ n r,D.ns=n :: r/\n.nm=road/\n.ab=none/\n.ch≠none
 ra:∀ n∈D.ns,n.ab=none->n.nm=road
 up:∀ n∈D.ns,∃ ys,Up D.ns n.nm ys/\ys.length<=6
 kid:∀ n∈D.ns,∀ c,n.ch=some c->c.2.nm.map (·.1)=kids D.ns n.nm
 lf:∀ n∈D.ns,n.ch=none->kids D.ns n.nm = []
 cok:∀ n∈D.ns,∀ c,n.ch=some c->c.2.Ok D.most
 m1:1<=D.most/\D.most<=1000000
 sok:∀ n∈D.ns,PyData.strOk n.nm=true/\n.nm.length<=8
theorem TD.Wf.rdN {D:TD} (h:D.Wf):∃ n,fndN D.ns L2.road=some n/\n.ab=none/\n.ch≠none:=by
 obtain ⟨n,r,e,h1,h2,h3⟩:=h.rd
 have:=zee h.nn (n:=n) (by rw [e]; exact List.mem_cons_self ..)
 exact ⟨n,h1 ▸ this,h2,h3⟩
theorem ztv (ns:List ND) (n:ND) (x:Str):kids (ns++[n]) x=kids ns x++(if n.ab=some x then [n.nm] else []):=by
 unfold kids
 rw [List.filter_append,List.map_append]
 congr 1
 by_cases h:n.ab=some x
 ·simp [h]
 ·simp [h]
theorem zle {ns:List ND} {n n':ND} (nd:(ns.map (·.nm)).Nodup) (hn:n∈ns) (e:n'.nm=n.nm) (ea:n'.ab=n.ab) (x:Str):kids (setN ns n') x=kids ns x:=by
 obtain ⟨l1,l2,el⟩:=List.append_of_mem hn
 rw [el] at nd ⊢
 rw [zmt e nd]
 unfold kids
 rw [List.filter_append,List.filter_append,List.map_append,List.map_append]
 congr 1
 rw [List.filter_cons,List.filter_cons,ea]
 by_cases h:n.ab=some x
 ·simp [h,e]
 ·simp [h]
theorem TD.Wf.set {D:TD} (h:D.Wf) {n n':ND} (hn:n∈D.ns) (e:n'.nm=n.nm) (ea:n'.ab=n.ab) (ec:n'.ch=none↔n.ch=none) (ek:∀ c c',n.ch=some c->n'.ch=some c'->c'.2.nm.map (·.1)=c.2.nm.map (·.1)) (ok:∀ c,n'.ch=some c->c.2.Ok D.most):{ D with ns:=setN D.ns n' }.Wf:=by
 have fn:=zee h.nn hn
 have fs:∀ y,fndN (setN D.ns n') y=if y=n.nm then some n' else fndN D.ns y:=fun y=>by
  rw [zjc,e]
  by_cases q:y=n.nm
  ·rw [if_pos q,if_pos q,q,fn]; rfl
  ·rw [if_neg q,if_neg q]
 have mem:∀ y∈setN D.ns n',y=n'\/y∈D.ns:=fun y hy=>by
  unfold setN at hy
  obtain ⟨z,hz,q⟩:=List.mem_map.mp hy
  split at q
  ·exact .inl q.symm
  ·exact .inr (q ▸ hz)
 have kd:=fun x=>zle h.nn hn e ea x
 have upm:∀ {x ys},Up D.ns x ys->Up (setN D.ns n') x ys:=fun {x ys} u=>u.mono fun z _ m hm=>by
  rw [fs]
  by_cases q:z=n.nm
  ·rw [if_pos q]
   rw [q,fn] at hm; cases hm
   exact ⟨_,rfl,ea⟩
  ·rw [if_neg q]; exact ⟨m,hm,rfl⟩
 obtain ⟨r,rs,er,r1,r2,r3⟩:=h.rd
 refine ⟨by show ((setN D.ns n').map (·.nm)).Nodup; rw [zob]; exact h.nn,?_,fun y hy ha=>?_,fun y hy=>?_,fun y hy c hc=>?_,fun y hy hc=>?_,fun y hy c hc=>?_,h.m1,fun y hy=>?_⟩
 ·show ∃ n r,setN D.ns n'=n :: r/\_
  rw [er]
  unfold setN
  rw [List.map_cons]
  by_cases q:r.nm=n'.nm
  ·rw [if_pos q]
   have:r=n:=by
    have h1:=zee h.nn (n:=r) (by rw [er]; exact List.mem_cons_self ..)
    rw [q,e,fn] at h1; exact (Option.some.inj h1).symm
   subst this
   exact ⟨_,_,rfl,q ▸ r1,ea.trans r2,fun z=>r3 (ec.mp z)⟩
  ·rw [if_neg q]; exact ⟨_,_,rfl,r1,r2,r3⟩
 ·rcases mem y hy with z | z
  ·subst z; rw [e]; exact h.ra n hn (ea ▸ ha)
  ·exact h.ra y z ha
 ·rcases mem y hy with z | z
  ·subst z
   obtain ⟨ys,u,l⟩:=h.up n hn
   exact ⟨ys,by rw [e]; exact upm u,l⟩
  ·obtain ⟨ys,u,l⟩:=h.up y z
   exact ⟨ys,upm u,l⟩
 ·show _=kids (setN D.ns n') y.nm
  rw [kd]
  rcases mem y hy with z | z
  ·subst z
   cases hc0:n.ch with
   | none=>rw [ec.mpr hc0] at hc; cases hc
   | some c0=>rw [ek c0 c hc0 hc,e]; exact h.kid n hn c0 hc0
  ·exact h.kid y z c hc
 ·show kids (setN D.ns n') y.nm = []
  rw [kd]
  rcases mem y hy with z | z
  ·subst z; rw [e]; exact h.lf n hn (ec.mp hc)
  ·exact h.lf y z hc
 ·rcases mem y hy with z | z
  ·subst z; exact ok c hc
  ·exact h.cok y z c hc
 ·rcases mem y hy with z | z
  ·subst z; rw [e]; exact h.sok n hn
  ·exact h.sok y z
theorem TD.Wf.put {D:TD} (h:D.Wf) {u u' n:ND} {c:At5×CSt} {s:Int} (hu:u∈D.ns) (hc:u.ch=some c) (eu:u' = { u with ch:=some (c.1,c.2.put n.nm s) }) (ok:(c.2.put n.nm s).Ok D.most) (hn:fndN D.ns n.nm=none) (ea:n.ab=some u.nm) (dp:∀ ys,Up D.ns u.nm ys->ys.length<=5) (nk:∀ c,n.ch=some c->c.2.nm = []/\c.2.Ok D.most) (sk:PyData.strOk n.nm=true/\n.nm.length<=8):{ D with ns:=setN D.ns u'++[n] }.Wf:=by
 have en:u'.nm=u.nm:=by rw [eu]
 have eab:u'.ab=u.ab:=by rw [eu]
 have fu:=zee h.nn hu
 have nin:n.nm ∉ D.ns.map (·.nm):=fnd_none.mp hn
 have nu:n.nm≠u.nm:=fun z=>nin (z ▸ List.mem_map.mpr ⟨u,hu,rfl⟩)
 have fs:∀ y,fndN (setN D.ns u') y=if y=u.nm then some u' else fndN D.ns y:=fun y=>by
  rw [zjc,en]
  by_cases q:y=u.nm
  ·rw [if_pos q,if_pos q,q,fu]; rfl
  ·rw [if_neg q,if_neg q]
 have hn':fndN (setN D.ns u') n.nm=none:=by rw [fs,if_neg nu]; exact hn
 have ff:=fun y=>zwb (n:=n) hn' y
 have mem:∀ y∈setN D.ns u'++[n],y=n\/y=u'\/(y∈D.ns/\y.nm≠u.nm):=fun y hy=>by
  rcases List.mem_append.mp hy with hy | hy
  ·unfold setN at hy
   obtain ⟨z,hz,q⟩:=List.mem_map.mp hy
   split at q
   ·exact .inr (.inl q.symm)
   ·rename_i k
    exact .inr (.inr ⟨q ▸ hz,fun w=>k (by rw [q,w,en])⟩)
  ·exact .inl (List.mem_singleton.mp hy)
 have upm:∀ {x ys},Up D.ns x ys->Up (setN D.ns u'++[n]) x ys:=fun {x ys} w=>w.mono fun z _ m hm=>by
  rw [ff,fs]
  have z1:z≠n.nm:=fun q=>by rw [q,hn] at hm; cases hm
  rw [if_neg z1]
  by_cases q:z=u.nm
  ·rw [if_pos q]
   rw [q,fu] at hm; cases hm
   exact ⟨_,rfl,eab⟩
  ·rw [if_neg q]; exact ⟨m,hm,rfl⟩
 have kd:∀ x,kids (setN D.ns u'++[n]) x=kids D.ns x++(if x=u.nm then [n.nm] else []):=fun x=>by
  rw [ztv,zle h.nn hu en eab,ea]
  by_cases q:x=u.nm
  ·rw [if_pos q,if_pos (by rw [q])]
  ·rw [if_neg q,if_neg (fun z=>q (Option.some.inj z).symm)]
 have nokid:kids D.ns n.nm = []:=by
  unfold kids
  rw [List.map_eq_nil_iff,List.filter_eq_nil_iff]
  intro y hy z
  have z:=of_decide_eq_true z
  obtain ⟨ys,w,_⟩:=h.up y hy
  cases w with
  | top h1 h2=>rw [zee h.nn hy] at h1; cases h1; rw [z] at h2; cases h2
  | on h1 h2 w =>
   rw [zee h.nn hy] at h1; cases h1; rw [z] at h2; cases h2
   obtain ⟨m,hm⟩:=w.fnd
   rw [hn] at hm; cases hm
 obtain ⟨r,rs,er,r1,r2,r3⟩:=h.rd
 refine ⟨?_,?_,fun y hy ha=>?_,fun y hy=>?_,fun y hy d hd=>?_,fun y hy hd=>?_,fun y hy d hd=>?_,h.m1,fun y hy=>?_⟩
 ·show ((setN D.ns u'++[n]).map (·.nm)).Nodup
  rw [List.map_append,zob,List.nodup_append]
  refine ⟨h.nn,by simp,fun a ha b hb z=>?_⟩
  have:b=n.nm:=List.mem_singleton.mp hb
  subst this
  subst z
  exact nin ha
 ·show ∃ m r,setN D.ns u'++[n] = m :: r/\_
  rw [er]
  unfold setN
  rw [List.map_cons,List.cons_append]
  by_cases q:r.nm=u'.nm
  ·rw [if_pos q]
   have:r=u:=by
    have h1:=zee h.nn (n:=r) (by rw [er]; exact List.mem_cons_self ..)
    rw [q,en,fu] at h1; exact (Option.some.inj h1).symm
   subst this
   exact ⟨_,_,rfl,q ▸ r1,eab.trans r2,by rw [eu]; simp⟩
  ·rw [if_neg q]; exact ⟨_,_,rfl,r1,r2,r3⟩
 ·rcases mem y hy with z | z | z
  ·subst z; rw [ea] at ha; cases ha
  ·subst z; rw [en]; exact h.ra u hu (eab ▸ ha)
  ·exact h.ra y z.1 ha
 ·rcases mem y hy with z | z | z
  ·subst z
   obtain ⟨ys,w,_⟩:=h.up u hu
   refine ⟨y.nm :: ys,.on (n:=y) (by rw [ff,if_pos rfl]) ea (upm w),?_⟩
   have:=dp ys w
   rw [List.length_cons]; omega
  ·subst z
   obtain ⟨ys,w,l⟩:=h.up u hu
   exact ⟨ys,by rw [en]; exact upm w,l⟩
  ·obtain ⟨ys,w,l⟩:=h.up y z.1
   exact ⟨ys,upm w,l⟩
 ·show _=kids (setN D.ns u'++[n]) y.nm
  rw [kd]
  rcases mem y hy with z | z | z
  ·subst z
   rw [(nk d hd).1,nokid,if_neg nu]; rfl
  ·subst z
   rw [en,if_pos rfl]
   have:d=(c.1,c.2.put n.nm s):=by rw [eu] at hd; exact (Option.some.inj hd).symm
   rw [this]
   show (c.2.put n.nm s).nm.map (·.1) = _
   rw [CSt.nm_put,List.map_append,h.kid u hu c hc]; rfl
  ·rw [if_neg z.2,List.append_nil]; exact h.kid y z.1 d hd
 ·show kids (setN D.ns u'++[n]) y.nm = []
  rw [kd]
  rcases mem y hy with z | z | z
  ·subst z; rw [nokid,if_neg nu]; rfl
  ·subst z; rw [eu] at hd; cases hd
  ·rw [if_neg z.2,List.append_nil]; exact h.lf y z.1 hd
 ·rcases mem y hy with z | z | z
  ·subst z; exact (nk d hd).2
  ·subst z
   have:d=(c.1,c.2.put n.nm s):=by rw [eu] at hd; exact (Option.some.inj hd).symm
   rw [this]; exact ok
  ·exact h.cok y z.1 d hd
 ·rcases mem y hy with z | z | z
  ·subst z; exact sk
  ·subst z; rw [en]; exact h.sok u hu
  ·exact h.sok y z.1
theorem TD.Wf.new {D:TD} {n:ND} {a:At5} {b:Bool} (e:D.ns = [n]) (h1:n.nm=road) (h2:n.ab=none) (h3:n.ch=some (a,CSt.new b)) (m1:1<=D.most/\D.most<=1000000):D.Wf:=by
 have one:∀ {y},y∈D.ns->y=n:=fun {y} hy=>by rw [e] at hy; exact List.mem_singleton.mp hy
 have f:fndN D.ns n.nm=some n:=by rw [e]; unfold fndN; simp
 have kd:∀ x,kids D.ns x = []:=fun x=>by
  rw [e]; unfold kids
  simp [h2]
 refine ⟨by rw [e]; simp,⟨n,[],e,h1,h2,by rw [h3]; simp⟩,fun y hy _=>one hy ▸ h1,fun y hy=>?_,fun y hy c hc=>?_,fun y hy _=>kd _,fun y hy c hc=>?_,m1,fun y hy=>?_⟩
 ·rw [one hy]; exact ⟨[n.nm],.top f h2,by simp⟩
 ·rw [kd]
  rw [one hy,h3] at hc
  cases hc
  show (CSt.new b).nm.map _ = []
  rw [CSt.nm_new]; rfl
 ·rw [one hy,h3] at hc
  cases hc
  exact CSt.Ok.new m1.1 b
 ·rw [one hy,h1]; exact ⟨by decide +kernel,by decide +kernel⟩
theorem TD.Wf.kid_len {D:TD} (h:D.Wf) {n:ND} (hn:n∈D.ns) {c:At5×CSt} (hc:n.ch=some c):c.2.nm.length<=D.ns.length:=by
 have:=congrArg List.length (h.kid n hn c hc)
 unfold kids at this
 rw [List.length_map,List.length_map] at this
 rw [this]
 exact List.length_filter_le _ _
section
variable {C:Cl} {H H':Hp} {D:TD}
theorem TrOk.ndfoot (h:TrOk C H D) {n:ND} (hn:n∈D.ns):n.foot.Nodup:=by
 have fd:=h.fd
 unfold TD.foot at fd
 obtain ⟨l1,l2,el⟩:=List.append_of_mem hn
 rw [el,List.flatMap_append,List.flatMap_cons] at fd
 simp only [List.nodup_cons,List.nodup_append] at fd
 exact fd.2.2.2.2.1.1
theorem TrOk.chooser (h:TrOk C H D) (nd:(D.ns.map (·.nm)).Nodup) {n:ND} (hn:n∈D.ns) {a:At5} {c c':CSt} (hc:n.ch=some (a,c)) (ow:Own a H H') (C':ChS C.s C.r C.m H' a D.most c'):TrOk C H' { D with ns:=setN D.ns { n with ch:=some (a,c') } }:=by
 have fn:=h.ndfoot hn
 have N:=h.nd n hn
 have ef:ND.foot { n with ch:=some (a,c') } = n.foot:=by unfold ND.foot; rw [hc]; rfl
 have sub:∀ b∈five a,b∈n.foot:=fun b hb=>by
  unfold ND.foot
  rw [hc]
  exact List.mem_cons_of_mem _ (List.mem_cons_of_mem _ (List.mem_append.mpr (.inl hb)))
 have fd:n.foot=n.p :: n.ql :: (five a++bkF n.bk):=by unfold ND.foot; rw [hc]; rfl
 have fn':=fn
 rw [fd] at fn'
 simp only [List.nodup_cons,List.mem_cons,List.mem_append,not_or,List.nodup_append] at fn'
 obtain ⟨⟨f1,f2,f3⟩,⟨f4,f5⟩,f6,f7,f8⟩:=fn'
 have dd:=ow.deed
 have nt:∀ {b xs},H b=some (.tup xs)->b ∉ five a:=fun {b xs} e z=>by
  obtain ⟨o,ho,q⟩:=(N.ch _ hc).at z
  rw [e] at ho; exact q xs (Option.some.inj ho).symm
 obtain ⟨dx,fs,h1,h2⟩:=N.ex
 refine h.node nd hn rfl rfl (dd.mono sub) ⟨⟨dx,fs,dd _ _ f2 h1,by rw [hc] at h2; exact h2⟩,⟨dd _ _ f4 N.qu.hl,N.qu.r.keep fun p z hp=>dd _ _ (nt hp) hp⟩,fun d hd=>?_,fun b hb=>?_⟩ (by rw [ef]; exact fn) fun b hb=>.inl (by rw [ef] at hb; exact hb)
 ·cases hd; exact C'
 ·obtain ⟨dx',fs',pr,pl,b1,b2,b3,b4⟩:=(N.bk b hb).ex
  have:b.1 ∉ five a:=fun z=>f8 b.1 z b.1 (by rw [show n.bk=some b from hb]; exact List.mem_singleton.mpr rfl) rfl
  exact ⟨dx',fs',pr,pl,dd _ _ this b1,b2,dd _ _ (nt b3) b3,dd _ _ (nt b4) b4⟩
theorem TrOk.snoc (h:TrOk C H D) {n:ND} (s:Same H H') (ok:NdOk C H' D.most n) (fn:n.foot.Nodup) (fr:∀ b∈n.foot,H b=none):TrOk C (upd H' D.pn (.dK (ndK (D.ns++[n])))) { D with ns:=D.ns++[n] }:=by
 have fd:=h.fd
 unfold TD.foot at fd
 simp only [List.nodup_cons,List.mem_cons,not_or] at fd
 obtain ⟨⟨a1,a2,a3⟩,⟨b1,b2⟩,c1,d1⟩:=fd
 have nf:∀ b∈D.foot,b ∉ n.foot:=fun b hb z=>by
  obtain ⟨o,ho,_⟩:=h.at hb
  rw [fr b z] at ho; cases ho
 have kp:∀ b o,b≠D.pn->H' b=some o->upd H' D.pn (.dK (ndK (D.ns++[n]))) b=some o:=fun b o q e=>by rw [zah q]; exact e
 have tp:∀ {b xs},H' b=some (.tup xs)->b≠D.pn:=fun {b xs} e z=>by rw [z,s _ _ h.hn] at e; cases e
 obtain ⟨dx,fs,h1,h2⟩:=h.ex
 have h':=h.same s
 refine ⟨⟨dx,fs,kp _ _ a1 (s _ _ h1),h2⟩,zab,fun x hx=>?_,kp _ _ (Ne.symm b1) (s _ _ h.go),zds (fun p g z=>kp _ _ (tp z) z) h'.gr,?_⟩
 ·rcases List.mem_append.mp hx with z | z
  ·refine (h'.nd x z).keep fun b o hb e=>kp b o ?_ e
   rcases hb with q | ⟨xs,q⟩
   ·exact fun w=>b2 (w ▸ List.mem_flatMap.mpr ⟨x,z,q⟩)
   ·exact tp q
  ·rw [List.mem_singleton.mp z]
   refine ok.keep fun b o hb e=>kp b o ?_ e
   rcases hb with q | ⟨xs,q⟩
   ·exact fun w=>nf D.pn (List.mem_cons_of_mem _ (List.mem_cons_self ..)) (w ▸ q)
   ·exact tp q
 ·show (D.p :: D.pn :: D.pg :: (D.ns++[n]).flatMap ND.foot).Nodup
  rw [List.flatMap_append,List.flatMap_cons,List.flatMap_nil,List.append_nil]
  simp only [List.nodup_cons,List.mem_cons,List.mem_append,not_or,List.nodup_append]
  have f1:=nf D.p (List.mem_cons_self ..)
  have f2:=nf D.pn (List.mem_cons_of_mem _ (List.mem_cons_self ..))
  have f3:=nf D.pg (List.mem_cons_of_mem _ (List.mem_cons_of_mem _ (List.mem_cons_self ..)))
  refine ⟨⟨a1,a2,a3,f1⟩,⟨b1,b2,f2⟩,⟨c1,f3⟩,d1,fn,fun b hb c hc z=>?_⟩
  subst z
  obtain ⟨x,hx,y⟩:=List.mem_flatMap.mp hb
  exact nf b (TD.mem_node hx y) hc
end
end L2
namespace L2
open PySem PySem.Spec PyProof.Rows
theorem zfl {n:Nat} (h:n<=1000000):n<sizeLine:=by rw [sizeLine_eq]; omega
theorem zfq {n:Nat} (h:n<=1000000):n<=sizeLine:=Nat.le_of_lt (zfl h)
theorem zfm {α:Type} {l:List α} {i:Nat} {a:α} (h:l[i]? = some a):l.take (i+1)=l.take i++[a]:=by
 obtain ⟨hi,e⟩:=List.getElem?_eq_some_iff.mp h
 rw [List.take_succ_eq_append_getElem hi,e]
def StOk (n:Nat) (z:Str):Prop:=PyData.strOk z=true/\z.length<=n
theorem zyb {z:Str}:PyData.strOk z=true↔∀ c∈z.cps.toList,c<1114112:=by
 unfold PyData.strOk
 rw [Array.all_eq_true_iff_forall_mem]
 simp
def lets:Str:=Str.ofString "abcdefghijklmnopqrstuvwxyz"
def zec (z:Str):Prop:=(1<=z.length/\z.length<=8)/\∀ c∈z.cps.toList,c∈lets.cps.toList
instance (z:Str):Decidable (zec z):=by unfold zec; exact inferInstance
def Inner (kd:Str):Prop:=kd=Str.ofString "starts" \/ kd=Str.ofString "rounds"
instance (kd:Str):Decidable (Inner kd):=by unfold Inner; exact inferInstance
def kdB (kd:Str):Bool:=decide (kd=Str.ofString "rounds")
theorem zpo {kd:Str}:inV (.str kd) [.str (Str.ofString "starts"),.str (Str.ofString "rounds")] = decide (Inner kd):=by
 rw [Bool.eq_iff_iff,decide_eq_true_iff]
 show (Str.ofString "starts" == kd || (Str.ofString "rounds" == kd || false))=true↔kd=Str.ofString "starts" \/ kd=Str.ofString "rounds"
 rw [Bool.or_false,Bool.or_eq_true,beq_iff_eq,beq_iff_eq]
 exact ⟨fun h=>h.imp Eq.symm Eq.symm,fun h=>h.imp Eq.symm Eq.symm⟩
theorem nd_at {C:Cl} {H:Hp} {D:TD} {x:Str} {n:ND} (O:TrOk C H D) (h:fndN D.ns x=some n):DGet H D.pn (.str x) (some (.ref n.p)):=by
 have:=DGet.k (k:=Sum.inr x) O.hn
 rw [zhw,h] at this
 exact this
def kdOk (kd:Str):Prop:=kd=Str.ofString "leaf" \/ Inner kd
instance (kd:Str):Decidable (kdOk kd):=by unfold kdOk; exact inferInstance
inductive Rf
 | name | taken | cls | place | share | length
open Classical in
noncomputable def dueP (D:TD) (x u kd:Str) (s:Int) (rm:V):Option Rf :=
 if ¬ zec x then some .name
 else if fndN D.ns x≠none then some .taken
 else match fndN D.ns u with
  | none=>some .cls
  | some n=>if ¬ (kdOk kd/\n.ch≠none/\∀ ys,Up D.ns u ys->ys.length<=5) then some .place
   else if ¬ (1<=s/\s<=1000000) then some .share
   else if kd=Str.ofString "leaf" /\ ∃ r:Int,rm = .int r/\r<0 then some .length
   else none
section
variable {D:TD} {x u kd:Str} {s:Int} {rm:V} {n:ND}
theorem zpp (h:¬ zec x):dueP D x u kd s rm=some .name:=by unfold dueP; rw [if_pos h]
theorem zmu (h:zec x) (hx:fndN D.ns x≠none):dueP D x u kd s rm=some .taken:=by unfold dueP; rw [if_neg (fun z=>z h),if_pos hx]
theorem zsp (h:zec x) (hx:fndN D.ns x=none) (hu:fndN D.ns u=none):dueP D x u kd s rm=some .cls:=by unfold dueP; rw [if_neg (fun z=>z h),if_neg (fun z=>z hx),hu]
theorem zmv (h:zec x) (hx:fndN D.ns x=none) (hu:fndN D.ns u=some n) (c:¬ (kdOk kd/\n.ch≠none/\∀ ys,Up D.ns u ys->ys.length<=5)):dueP D x u kd s rm=some .place:=by
 unfold dueP; rw [if_neg (fun z=>z h),if_neg (fun z=>z hx),hu]
 exact if_pos c
theorem zmw (h:zec x) (hx:fndN D.ns x=none) (hu:fndN D.ns u=some n) (c:kdOk kd/\n.ch≠none/\∀ ys,Up D.ns u ys->ys.length<=5) (d:¬ (1<=s/\s<=1000000)):dueP D x u kd s rm=some .share:=by
 unfold dueP; rw [if_neg (fun z=>z h),if_neg (fun z=>z hx),hu]
 exact (if_neg (fun z=>z c)).trans (if_pos d)
theorem zqh (h:zec x) (hx:fndN D.ns x=none) (hu:fndN D.ns u=some n) (c:kdOk kd/\n.ch≠none/\∀ ys,Up D.ns u ys->ys.length<=5) (d:1<=s/\s<=1000000) (e:kd=Str.ofString "leaf" /\ ∃ r:Int,rm = .int r/\r<0):dueP D x u kd s rm=some .length:=by
 unfold dueP; rw [if_neg (fun z=>z h),if_neg (fun z=>z hx),hu]
 exact (if_neg (fun z=>z c)).trans ((if_neg (fun z=>z d)).trans (if_pos e))
theorem zpq (h:zec x) (hx:fndN D.ns x=none) (hu:fndN D.ns u=some n) (c:kdOk kd/\n.ch≠none/\∀ ys,Up D.ns u ys->ys.length<=5) (d:1<=s/\s<=1000000) (e:¬ (kd=Str.ofString "leaf" /\ ∃ r:Int,rm = .int r/\r<0)):dueP D x u kd s rm=none:=by
 unfold dueP; rw [if_neg (fun z=>z h),if_neg (fun z=>z hx),hu]
 exact (if_neg (fun z=>z c)).trans ((if_neg (fun z=>z d)).trans (if_neg e))
end
def Rf.at (cN cT cC cP cS cL:Addr):Rf->Addr
 | .name=>cN
 | .taken=>cT
 | .cls=>cC
 | .place=>cP
 | .share=>cS
 | .length=>cL
def TD.put (D:TD) (u:ND) (c:At5×CSt) (s:Int) (n:ND):TD:={ D with ns:=setN D.ns { u with ch:=some (c.1,c.2.put n.nm s) }++[n] }
def TD.full (D:TD):Prop:=D.ns.length<=60/\∀ n∈D.ns,∀ c,n.ch=some c->c.2.sz<=4*D.ns.length
def TD.fit (D:TD):Prop:=D.ns.length<=60/\∀ n∈D.ns,∀ c,n.ch=some c->c.2.sz<=800
section
variable {X:Cx}
end
theorem zjd (l:List Str) (h:∀ x∈l,PyData.strOk x=true):PySem.SeqAt.shaped (.list (l.map PyData.str))=true:=by
 have c:PyData.canLayAll0 (l.map PyData.str)=true:=by
  induction l with
  | nil=>rfl
  | cons x r ih =>
   simp only [List.map_cons,PyData.canLayAll0,PyData.canLay0,Bool.and_eq_true]
   exact ⟨h x (by simp),ih fun y hy=>h y (List.mem_cons_of_mem _ hy)⟩
 have d:=ziu (f:=PyData.str) (n:=0) (fun _=>by simp [PyData.depth]) l
 unfold PySem.SeqAt.shaped
 rw [Bool.and_eq_true,decide_eq_true_eq]
 refine ⟨by simpa only [PyData.canLay0] using c,?_⟩
 simp only [PyData.depth]
 omega
theorem ixNum {K:PySem.W.Frag} {H:Hp} {l:Addr} {xs:List Int} {Q:VK} (i:Nat) (hl:H l=some (.lst (xs.map V.int))) (hi:i<xs.length) (k:∀ y∈xs,Q (.int y) H):rIxL K (.ref l) (.int (i:Int)) H Q:=by
 have e:=zht (xs:=xs.map V.int) (j:=i) (v:=V.int (xs[i]'hi)) (by simp)
 exact zmg (.of hl) e (k _ (List.getElem_mem hi))
theorem ixW {K:PySem.W.Frag} {H:Hp} {l:Addr} {ks:List Str} {Q:VK} {y:Int} (hl:H l=some (.lst (ks.map V.str))) (h0:0<=y) (h1:y<ks.length) (k:∀ z∈ks,Q (.str z) H):rIxL K (.ref l) (.int y) H Q:=by
 have e:=zht (xs:=ks.map V.str) (j:=y.toNat) (v:=V.str (ks[y.toNat]'(by omega))) (by simp)
 rw [Int.toNat_of_nonneg h0] at e
 exact zmg (.of hl) e (k _ (List.getElem_mem _))
theorem zlf {c:TT} {t1 t2:TS} {D:Ends} {σ:St} {H:Hp} (h:∀ G:St->Hp->Prop,(∀ σ H,t1 D σ H->G σ H)->tIfS c (fun _ σ H=>G σ H) t2 D σ H):tIfS c t1 t2 D σ H:=h (t1 D) fun _ _ z=>z
end L2
namespace L2
open PySem PySem.Spec PyProof.Rows
section
variable {C:Cl} {H H':Hp} {D:TD}
theorem TrOk.apart (h:TrOk C H D) {x:ND} (hx:x∈D.ns) {b:Addr} (hb:b∈x.foot):b≠D.p/\b≠D.pn/\b≠D.pg:=by
 have fd:=h.fd
 unfold TD.foot at fd
 simp only [List.nodup_cons,List.mem_cons,not_or] at fd
 have m:=List.mem_flatMap.mpr ⟨x,hx,hb⟩
 exact ⟨fun z=>fd.1.2.2 (z ▸ m),fun z=>fd.2.1.2 (z ▸ m),fun z=>fd.2.2.1 (z ▸ m)⟩
theorem TrOk.field (h:TrOk C H D) {dx:Addr} {fs fs':List (Str×V)} {tm fr ct:Int} (hp:H D.p=some (.ins C.t dx fs)) (ft:FTr fs' D.most D.pn tm fr ct D.pg):TrOk C (upd H D.p (.ins C.t dx fs')) { D with tm:=tm,fr:=fr,ct:=ct }:=by
 have fd:=h.fd
 unfold TD.foot at fd
 simp only [List.nodup_cons,List.mem_cons,not_or] at fd
 have kp:∀ b o,b≠D.p->H b=some o->upd H D.p (.ins C.t dx fs') b=some o:=fun b o q e=>by rw [zah q]; exact e
 have tp:∀ {b xs},H b=some (.tup xs)->b≠D.p:=fun {b xs} e z=>by rw [z,hp] at e; cases e
 refine ⟨⟨dx,fs',zab,ft⟩,kp _ _ (Ne.symm fd.1.1) h.hn,fun x hx=>(h.nd x hx).keep fun b o hb e=>kp b o ?_ e,kp _ _ (Ne.symm fd.1.2.1) h.go,zds (fun p g z=>kp _ _ (tp z) z) h.gr,h.fd⟩
 rcases hb with q | ⟨xs,q⟩
 ·exact (h.apart hx q).1
 ·exact tp q
theorem TrOk.queue (h:TrOk C H D) (nd:(D.ns.map (·.nm)).Nodup) {n:ND} (hn:n∈D.ns) {ps:List Addr} {qu:List D2} (r:Duos H ps qu):TrOk C (upd H n.ql (.lst (ps.map V.ref))) { D with ns:=setN D.ns { n with ps:=ps,qu:=qu } }:=by
 have fn:=h.ndfoot hn
 have N:=h.nd n hn
 have fn':=fn
 unfold ND.foot at fn'
 simp only [List.nodup_cons,List.mem_cons,List.mem_append,not_or] at fn'
 obtain ⟨⟨f1,f2,f3⟩,⟨f4,f5⟩,f6⟩:=fn'
 have kp:∀ b o,b≠n.ql->H b=some o->upd H n.ql (.lst (ps.map V.ref)) b=some o:=fun b o q e=>by rw [zah q]; exact e
 have tp:∀ {b xs},H b=some (.tup xs)->b≠n.ql:=fun {b xs} e z=>by rw [z,N.qu.hl] at e; cases e
 obtain ⟨dx,fs,h1,h2⟩:=N.ex
 refine h.node nd hn rfl rfl (ztu (List.mem_cons_of_mem _ (List.mem_cons_self ..))) ⟨⟨dx,fs,kp _ _ f1 h1,h2⟩,⟨zab,r.keep fun p z hp=>kp _ _ (tp hp) hp⟩,fun c hc=>?_,fun b hb=>?_⟩ fn fun b hb=>.inl hb
 ·refine (N.ch c hc).keep fun b o hb e=>kp b o ?_ e
  rcases hb with q | ⟨xs,q⟩
  ·exact fun z=>f4 (by rw [show n.ch=some c from hc]; exact z ▸ q)
  ·exact tp q
 ·obtain ⟨dx',fs',pr,pl,b1,b2,b3,b4⟩:=(N.bk b hb).ex
  have:b.1≠n.ql:=fun z=>f5 (by rw [show n.bk=some b from hb]; exact List.mem_singleton.mpr z.symm)
  exact ⟨dx',fs',pr,pl,kp _ _ this b1,b2,kp _ _ (tp b3) b3,kp _ _ (tp b4) b4⟩
end
def zbx (ns:List ND) (x:Str):List ND:=ns.filter fun n=>decide (n.nm≠x)
theorem mem_dropNd {ns:List ND} {x:Str} {n:ND}:n∈zbx ns x↔n∈ns/\n.nm≠x:=by
 unfold zbx
 rw [List.mem_filter,decide_eq_true_iff]
theorem ztw (ns:List ND) (x y:Str):fndN (zbx ns x) y=if y=x then none else fndN ns y:=by
 induction ns with
 | nil=>unfold fndN zbx; simp
 | cons p r ih =>
  unfold fndN zbx at ih ⊢
  rw [List.filter_cons]
  by_cases hp:p.nm=x
  ·rw [if_neg (by simp [hp]),ih,List.find?_cons]
   by_cases hy:y=x
   ·rw [if_pos hy,if_pos hy]
   ·rw [if_neg hy,if_neg hy,decide_eq_false (fun z=>hy (z.symm.trans hp))]
  ·rw [if_pos (by simp [hp]),List.find?_cons,List.find?_cons]
   by_cases hy:p.nm=y
   ·have:¬ y=x:=fun z=>hp (hy.trans z)
    simp [hy,this]
   ·simp only [decide_eq_false hy]
    exact ih
theorem ztx (ns:List ND) (x:Str):dropK (ndK ns) (Sum.inr x:Key)=ndK (zbx ns x):=by
 unfold dropK ndK zbx
 rw [List.filter_map]
 congr 1
 refine List.filter_congr fun p _=>?_
 simp [Function.comp_def]
theorem flat_drop {ns:List ND} {x:Str}:((zbx ns x).flatMap ND.foot).Sublist (ns.flatMap ND.foot):=by
 induction ns with
 | nil=>exact List.Sublist.refl _
 | cons p r ih =>
  unfold zbx at ih ⊢
  rw [List.filter_cons]
  split
  ·rw [List.flatMap_cons,List.flatMap_cons]
   exact (List.Sublist.refl _).append ih
  ·rw [List.flatMap_cons]
   exact ih.trans (List.sublist_append_right _ _)
section
variable {C:Cl} {H H':Hp} {D:TD}
theorem TrOk.drop (h:TrOk C H D) (x:Str):TrOk C (upd H D.pn (.dK (ndK (zbx D.ns x)))) { D with ns:=zbx D.ns x }:=by
 have fd:=h.fd
 unfold TD.foot at fd
 simp only [List.nodup_cons,List.mem_cons,not_or] at fd
 have kp:∀ b o,b≠D.pn->H b=some o->upd H D.pn (.dK (ndK (zbx D.ns x))) b=some o:=fun b o q e=>by rw [zah q]; exact e
 have tp:∀ {b xs},H b=some (.tup xs)->b≠D.pn:=fun {b xs} e z=>by rw [z,h.hn] at e; cases e
 obtain ⟨dx,fs,h1,h2⟩:=h.ex
 refine ⟨⟨dx,fs,kp _ _ fd.1.1 h1,h2⟩,zab,fun y hy=>?_,kp _ _ (Ne.symm fd.2.1.1) h.go,zds (fun p g z=>kp _ _ (tp z) z) h.gr,?_⟩
 ·have hy:=(mem_dropNd.mp hy).1
  refine (h.nd y hy).keep fun b o hb e=>kp b o ?_ e
  rcases hb with q | ⟨xs,q⟩
  ·exact (h.apart hy q).2.1
  ·exact tp q
 ·show (D.p :: D.pn :: D.pg :: (zbx D.ns x).flatMap ND.foot).Nodup
  exact h.fd.sublist (((flat_drop.cons₂ _).cons₂ _).cons₂ _)
end
theorem zsq {ns:List ND} {x y:Str} {n:ND} (nd:(ns.map (·.nm)).Nodup) (hn:n∈ns) (e:n.nm=x):kids (zbx ns x) y=if n.ab=some y then (kids ns y).filter (fun z=>decide (z≠x)) else kids ns y:=by
 have key:kids (zbx ns x) y=(kids ns y).filter fun z=>decide (z≠x):=by
  unfold kids zbx
  rw [List.filter_filter,List.filter_map,List.filter_filter]
  congr 1
  refine List.filter_congr fun p _=>?_
  simp [Function.comp_def,Bool.and_comm]
 rw [key]
 split
 ·rfl
 ·rename_i h
  rw [List.filter_eq_self]
  intro z hz
  unfold kids at hz
  obtain ⟨p,hp,rfl⟩:=List.mem_map.mp hz
  obtain ⟨hp1,hp2⟩:=List.mem_filter.mp hp
  refine decide_eq_true fun q=>h ?_
  have h1:=zee nd hp1
  have h2:=zee nd hn
  rw [q,<- e,h2] at h1
  rw [Option.some.inj h1]
  exact of_decide_eq_true hp2
def TD.take (D:TD) (un:ND) (c:At5×CSt) (x:Str):TD:={ D with ns:=zbx (setN D.ns { un with ch:=some (c.1,c.2.take x) }) x }
theorem TD.Wf.take {D:TD} (h:D.Wf) {n un:ND} {c:At5×CSt} (hn:n∈D.ns) (nr:n.nm≠road) (nk:kids D.ns n.nm = []) (hu:un∈D.ns) (ea:n.ab=some un.nm) (hc:un.ch=some c):(D.take un c n.nm).Wf:=by
 have nu:un.nm≠n.nm:=fun z=>by
  have:n.nm∈kids D.ns un.nm:=List.mem_map.mpr ⟨n,List.mem_filter.mpr ⟨hn,decide_eq_true ea⟩,rfl⟩
  rw [z,nk] at this; cases this
 have inn:n.nm∈kids D.ns un.nm:=List.mem_map.mpr ⟨n,List.mem_filter.mpr ⟨hn,decide_eq_true ea⟩,rfl⟩
 have fu:=zee h.nn hu
 have fn:=zee h.nn hn
 have en:({ un with ch:=some (c.1,c.2.take n.nm) }:ND).nm=un.nm:=rfl
 have nn':((setN D.ns { un with ch:=some (c.1,c.2.take n.nm) }).map (·.nm)).Nodup:=by rw [zob]; exact h.nn
 have nin':n∈setN D.ns { un with ch:=some (c.1,c.2.take n.nm) }:=by
  unfold setN
  refine List.mem_map.mpr ⟨n,hn,?_⟩
  rw [if_neg (fun z=>nu (show un.nm=n.nm from z.symm))]
 have fs:∀ y,fndN (setN D.ns { un with ch:=some (c.1,c.2.take n.nm) }) y=if y=un.nm then some { un with ch:=some (c.1,c.2.take n.nm) } else fndN D.ns y:=fun y=>by
  rw [zjc,en]
  by_cases q:y=un.nm
  ·rw [if_pos q,if_pos q,q,fu]; rfl
  ·rw [if_neg q,if_neg q]
 have mem:∀ y∈(D.take un c n.nm).ns,y.nm≠n.nm/\(y = { un with ch:=some (c.1,c.2.take n.nm) }\/(y∈D.ns/\y.nm≠un.nm)):=fun y hy=>by
  obtain ⟨q1,q2⟩:=mem_dropNd.mp hy
  refine ⟨q2,?_⟩
  unfold setN at q1
  obtain ⟨z,hz,q⟩:=List.mem_map.mp q1
  split at q
  ·exact .inl q.symm
  ·rename_i k
   exact .inr ⟨q ▸ hz,q ▸ k⟩
 have upm:∀ {y ys},y≠n.nm->Up D.ns y ys->Up (D.take un c n.nm).ns y ys:=fun {y ys} hy u=>by
  refine u.mono fun z hz m hm=>?_
  have zn:z≠n.nm:=by
   intro q
   subst q
   have:∀ {y ys},Up D.ns y ys->n.nm∈ys->y=n.nm:=fun {y ys} u=>by
    induction u with
    | top _ _=>intro hz; exact (List.mem_singleton.mp hz).symm
    | on h1 h2 h3 ih =>
     intro hz
     rcases List.mem_cons.mp hz with q | q
     ·exact q.symm
     ·have e:=ih q
      obtain ⟨a1,a2⟩:=zbm h1
      rename_i m0 _
      have w:m0.nm∈kids D.ns n.nm:=List.mem_map.mpr ⟨m0,List.mem_filter.mpr ⟨a1,decide_eq_true (by rw [h2,e])⟩,rfl⟩
      rw [nk] at w; cases w
   exact hy (this u hz)
  show ∃ n',fndN (zbx (setN D.ns _) n.nm) z=some n'/\n'.ab=m.ab
  rw [ztw,if_neg zn,fs]
  by_cases q:z=un.nm
  ·rw [if_pos q]
   rw [q,fu] at hm; cases hm
   exact ⟨_,rfl,rfl⟩
  ·rw [if_neg q]; exact ⟨m,hm,rfl⟩
 have kd:∀ y,kids (D.take un c n.nm).ns y=if y=un.nm then (kids D.ns y).filter (fun z=>decide (z≠n.nm)) else kids D.ns y:=fun y=>by
  show kids (zbx (setN D.ns _) n.nm) y = _
  rw [zsq nn' nin' rfl,zle h.nn hu en rfl,ea]
  by_cases q:y=un.nm
  ·rw [if_pos q,if_pos (by rw [q])]
  ·rw [if_neg q,if_neg (fun z=>q (Option.some.inj z).symm)]
 have shx:shOf c.2.nm n.nm≠none:=by rw [Sw.sh_mem,h.kid un hu c hc]; exact inn
 obtain ⟨r,rs,er,r1,r2,r3⟩:=h.rd
 refine ⟨?_,?_,fun y hy ha=>?_,fun y hy=>?_,fun y hy d hd=>?_,fun y hy hd=>?_,fun y hy d hd=>?_,h.m1,fun y hy=>?_⟩
 ·show ((zbx _ n.nm).map (·.nm)).Nodup
  exact nn'.sublist ((List.filter_sublist).map _)
 ·show ∃ m t,zbx (setN D.ns _) n.nm=m :: t/\_
  rw [er]
  unfold zbx setN
  rw [List.map_cons,List.filter_cons]
  by_cases q:r.nm=un.nm
  ·rw [if_pos q]
   have:r=un:=by
    have h1:=zee h.nn (n:=r) (by rw [er]; exact List.mem_cons_self ..)
    rw [q,fu] at h1; exact (Option.some.inj h1).symm
   subst this
   rw [if_pos (by simp [nu])]
   exact ⟨_,_,rfl,r1,r2,by simp⟩
  ·rw [if_neg q,if_pos (by rw [r1]; simp [Ne.symm nr])]
   exact ⟨_,_,rfl,r1,r2,r3⟩
 ·rcases (mem y hy).2 with z | z
  ·rw [z] at ha ⊢; exact h.ra un hu ha
  ·exact h.ra y z.1 ha
 ·obtain ⟨q,z⟩:=mem y hy
  rcases z with z | z
  ·obtain ⟨ys,u,l⟩:=h.up un hu
   exact ⟨ys,by rw [z]; exact upm nu u,l⟩
  ·obtain ⟨ys,u,l⟩:=h.up y z.1
   exact ⟨ys,upm q u,l⟩
 ·rw [kd]
  rcases (mem y hy).2 with z | z
  ·rw [z] at hd ⊢
   cases hd
   rw [if_pos rfl]
   show (c.2.take n.nm).nm.map (·.1) = _
   rw [CSt.nm_take,Sw.fst_drop,h.kid un hu c hc]
  ·rw [if_neg z.2]; exact h.kid y z.1 d hd
 ·rw [kd]
  rcases (mem y hy).2 with z | z
  ·rw [z] at hd; cases hd
  ·rw [if_neg z.2]; exact h.lf y z.1 hd
 ·rcases (mem y hy).2 with z | z
  ·rw [z] at hd
   cases hd
   exact (h.cok un hu c hc).take shx
  ·exact h.cok y z.1 d hd
 ·rcases (mem y hy).2 with z | z
  ·rw [z]; exact h.sok un hu
  ·exact h.sok y z.1
end L2
local macro_rules | `(tactic| walk_at "rd")=>`(tactic| try simp only [L2.tAsg,L2.tOp,L2.tUn,L2.gName,L2.tVar,L2.tC,L2.rI,L2.rI0,L2.rU,L2.rEq,L2.rNe,L2.scal,L2.tTest,L2.tIfS,L2.tRet,L2.tRetN,L2.tNext,L2.tDrop,L2.tCB,L2.tCons,L2.tNil,L2.tCall,L2.tAndV,L2.tOrV,L2.tNotV,L2.tAnd,L2.tOr,L2.tNot,L2.tB,L2.tIf,L2.tChain,L2.tTup,L2.tLst,L2.tBM,L2.tBM0,L2.tComp_eq,L2.tCallX,L2.tCallN,L2.tDGet,L2.tDGet1,L2.tDGet2,L2.sDPut,L2.tDIn,L2.tDNotIn,L2.tDSd,L2.tDNewK,L2.tTru,L2.tFld_eq,L2.sFld_eq,L2.tMethX_eq,L2.tMakeX,L2.tXmk,L2.tXmk1,L2.tRaise,L2.tTry,L2.tTryAs,L2.hkOf,L2.iList,L2.iTup,L2.iEnum,L2.iRng1,L2.iRng2,L2.iRng3,L2.iEnum1,L2.iRev,L2.tSl,L2.tPart,L2.tNoPart,L2.gTup,L2.gCons,L2.gNil,L2.spInt1,L2.spInt2,L2.spWhole,
 List.getElem?_cons_zero,List.getElem?_cons_succ,List.set_cons_zero,List.set_cons_succ,List.cons_append,List.nil_append,List.append_nil,Option.some.injEq,L2.V.int.injEq,L2.V.bl.injEq,L2.V.ref.injEq,L2.V.str.injEq,List.cons.injEq,exists_eq_left',exists_eq_left,exists_eq_right,exists_and_left,exists_and_right,and_true,true_and,and_self,exists_const,exists_eq,exists_eq',and_assoc,decide_eq_true_eq,Bool.not_eq_true',Bool.not_true,Bool.not_false,Bool.false_eq_true,Bool.true_eq_false,if_true,if_false,decide_eq_false_iff_not,ite_not,↓reduceIte,Int.reduceLT,Int.reduceLE,Int.reducePow,Int.reduceMul,Int.reduceAdd,Int.reduceSub,Int.reduceNeg,Int.reduceToNat,Int.reduceEq,Int.reduceNe,L2.CPow,L2.cmulL_lit,L2.line_lit,L2.line_lt,List.length_cons,List.length_nil,Nat.reduceAdd,Nat.zero_add,L2.cdivL_lit,Int.natAbs_natCast,Int.natAbs_neg,Nat.reducePow,Nat.reduceLT,Nat.reduceLeDiff,Int.natAbs,L2.tPar,ne_eq,not_false_eq_true,not_true_eq_false])
local macro_rules | `(tactic| walk_at "rds")=>`(tactic| try simp only [L2.tSeq,L2.tAsg,L2.tOp,L2.tUn,L2.gName,L2.tVar,L2.tC,L2.rI,L2.rI0,L2.rU,L2.rEq,L2.rNe,L2.scal,L2.tTest,L2.tIfS,L2.tRet,L2.tRetN,L2.tNext,L2.tDrop,L2.tCB,L2.tCons,L2.tNil,L2.tCall,L2.tAndV,L2.tOrV,L2.tNotV,L2.tAnd,L2.tOr,L2.tNot,L2.tB,L2.tIf,L2.tChain,L2.tTup,L2.tLst,L2.tBM,L2.tBM0,L2.tComp_eq,L2.tCallX,L2.tCallN,L2.tDGet,L2.tDGet1,L2.tDGet2,L2.sDPut,L2.tDIn,L2.tDNotIn,L2.tDSd,L2.tDNewK,L2.tTru,L2.tFld_eq,L2.sFld_eq,L2.tMethX_eq,L2.tMakeX,L2.tXmk,L2.tXmk1,L2.tRaise,L2.tTry,L2.tTryAs,L2.hkOf,L2.iList,L2.iTup,L2.iEnum,L2.iRng1,L2.iRng2,L2.iRng3,L2.iEnum1,L2.iRev,L2.tSl,L2.tPart,L2.tNoPart,L2.gTup,L2.gCons,L2.gNil,L2.spInt1,L2.spInt2,L2.spWhole,
 List.getElem?_cons_zero,List.getElem?_cons_succ,List.set_cons_zero,List.set_cons_succ,List.cons_append,List.nil_append,List.append_nil,Option.some.injEq,L2.V.int.injEq,L2.V.bl.injEq,L2.V.ref.injEq,L2.V.str.injEq,List.cons.injEq,exists_eq_left',exists_eq_left,exists_eq_right,exists_and_left,exists_and_right,and_true,true_and,and_self,exists_const,exists_eq,exists_eq',and_assoc,decide_eq_true_eq,Bool.not_eq_true',Bool.not_true,Bool.not_false,Bool.false_eq_true,Bool.true_eq_false,if_true,if_false,decide_eq_false_iff_not,ite_not,↓reduceIte,Int.reduceLT,Int.reduceLE,Int.reducePow,Int.reduceMul,Int.reduceAdd,Int.reduceSub,Int.reduceNeg,Int.reduceToNat,Int.reduceEq,Int.reduceNe,L2.CPow,L2.cmulL_lit,L2.line_lit,L2.line_lt,List.length_cons,List.length_nil,Nat.reduceAdd,Nat.zero_add,L2.cdivL_lit,Int.natAbs_natCast,Int.natAbs_neg,Nat.reducePow,Nat.reduceLT,Nat.reduceLeDiff,Int.natAbs,L2.tPar,ne_eq,not_false_eq_true,not_true_eq_false])
namespace K62
open PySem L2 PyProof.Rows
def top (i:Nat):Stmt:=PySem.Challenge.pw_sharewheel_k62_what_came_and_waits.main.body.getD i (.Pass ⟨0,0,0,0⟩)
abbrev zfg:Stmt:=top 11
abbrev zhx:Stmt:=top 12
abbrev zje:Stmt:=top 13
abbrev zfr:Stmt:=top 14
abbrev zdm:Stmt:=top 17
abbrev zdx:Stmt:=top 31
abbrev zfh:Stmt:=top 32
abbrev zdy:Stmt:=top 33
abbrev zda:Stmt:=top 37
abbrev zdn:Stmt:=top 38
abbrev zdz:Stmt:=top 39
abbrev zeh:Stmt:=top 40
abbrev zei:Stmt:=top 41
abbrev zej:Stmt:=top 42
abbrev zdb:Stmt:=top 43
abbrev zbr:Stmt:=top 44
abbrev zco:Stmt:=top 45
abbrev zcp:Stmt:=top 46
abbrev zev:Stmt:=top 47
abbrev zdo:Stmt:=top 48
abbrev zek:Stmt:=top 49
abbrev zdp:Stmt:=top 50
abbrev s_law:Stmt:=top 51
theorem sc_divisor:FnScope ["one", "other", "great", "small", "rest"] ["one", "other"] (zac zfg):=⟨rfl,rfl,rfl,by decide +kernel,rfl,by decide +kernel,by decide +kernel⟩
theorem sc_ratio:FnScope ["top", "bottom", "common"] ["top", "bottom"] (zac zhx):=⟨rfl,rfl,rfl,by decide +kernel,rfl,by decide +kernel,by decide +kernel⟩
theorem zju:FnScope ["share"] ["share"] (zac zdm):=⟨rfl,rfl,rfl,by decide +kernel,rfl,by decide +kernel,by decide +kernel⟩
theorem zlg:FnScope ["most"] ["most"] (zac zdx):=⟨rfl,rfl,rfl,by decide +kernel,rfl,by decide +kernel,by decide +kernel⟩
theorem zqi:FnScope ["text"] ["text"] (zac zfh):=⟨rfl,rfl,rfl,by decide +kernel,rfl,by decide +kernel,by decide +kernel⟩
theorem zlh:FnScope ["kind", "most"] ["kind", "most"] (zac zdy):=⟨rfl,rfl,rfl,by decide +kernel,rfl,by decide +kernel,by decide +kernel⟩
theorem zjf:FnScope ["_law_script", "_law_k"] ["_law_script", "_law_k"] (zac zda):=⟨rfl,rfl,rfl,by decide +kernel,rfl,by decide +kernel,by decide +kernel⟩
theorem sc__law_stream:FnScope ["_law_cell", "_law_many", "_law_found", "_law_number", "_law_k"] ["_law_cell", "_law_many"] (zac zdn):=⟨rfl,rfl,rfl,by decide +kernel,rfl,by decide +kernel,by decide +kernel⟩
theorem zli:FnScope ["_law_found"] ["_law_found"] (zac zdz):=⟨rfl,rfl,rfl,by decide +kernel,rfl,by decide +kernel,by decide +kernel⟩
theorem sc__law_name:FnScope ["_law_world", "_law_xs", "_law_signs", "_law_head"] ["_law_world", "_law_xs"] (zac zeh):=⟨rfl,rfl,rfl,by decide +kernel,rfl,by decide +kernel,by decide +kernel⟩
theorem zmx:FnScope ["_law_tree", "_law_name_here", "_law_length_here"] ["_law_tree", "_law_name_here", "_law_length_here"] (zac zei):=⟨rfl,rfl,rfl,by decide +kernel,rfl,by decide +kernel,by decide +kernel⟩
theorem zmy:FnScope ["_law_tree", "_law_name_here"] ["_law_tree", "_law_name_here"] (zac zej):=⟨rfl,rfl,rfl,by decide +kernel,rfl,by decide +kernel,by decide +kernel⟩
theorem zjg:FnScope ["_law_tree", "_law_name_here"] ["_law_tree", "_law_name_here"] (zac zdb):=⟨rfl,rfl,rfl,by decide +kernel,rfl,by decide +kernel,by decide +kernel⟩
theorem zgy:FnScope ["_law_world", "_law_name_here"] ["_law_world", "_law_name_here"] (zac zbr):=⟨rfl,rfl,rfl,by decide +kernel,rfl,by decide +kernel,by decide +kernel⟩
theorem sc__law_due_come:FnScope ["_law_tree", "_law_world", "_law_name_here", "_law_length_here", "_law_counted", "_law_held"] ["_law_tree", "_law_world", "_law_name_here", "_law_length_here", "_law_counted"] (zac zco):=⟨rfl,rfl,rfl,by decide +kernel,rfl,by decide +kernel,by decide +kernel⟩
theorem zic:FnScope ["_law_world", "_law_name_here"] ["_law_world", "_law_name_here"] (zac zcp):=⟨rfl,rfl,rfl,by decide +kernel,rfl,by decide +kernel,by decide +kernel⟩
theorem sc__law_put:FnScope ["_law_tree", "_law_world", "_law_xs", "_law_name_here", "_law_places", "_law_one", "_law_place", "_law_above", "_law_room", "_law_kind", "_law_queue"] ["_law_tree", "_law_world", "_law_xs"] (zac zev):=⟨rfl,rfl,rfl,by decide +kernel,rfl,by decide +kernel,by decide +kernel⟩
theorem sc__law_length:FnScope ["_law_most", "_law_xs", "_law_some"] ["_law_most", "_law_xs"] (zac zdo):=⟨rfl,rfl,rfl,by decide +kernel,rfl,by decide +kernel,by decide +kernel⟩
theorem sc__law_deed:FnScope ["_law_tree", "_law_world", "_law_xs", "_law_counted", "_law_names", "_law_name_here", "_law_due", "_law_found", "_law_length_here"] ["_law_tree", "_law_world", "_law_xs", "_law_counted"] (zac zek):=⟨rfl,rfl,rfl,by decide +kernel,rfl,by decide +kernel,by decide +kernel⟩
theorem sc__law_stands:FnScope ["_law_tree", "_law_world", "_law_name_here", "_law_above", "_law_way"] ["_law_tree", "_law_world", "_law_name_here"] (zac zdp):=⟨rfl,rfl,rfl,by decide +kernel,rfl,by decide +kernel,by decide +kernel⟩
theorem sc_law:FnScope ["_law_script", "_law_cell", "_law_tree", "_law_world", "_law_counted", "_law_xs", "_law_good", "_law_names", "_law_name_here", "_law_told"] ["_law_script"] (zac s_law):=⟨rfl,rfl,rfl,by decide +kernel,rfl,by decide +kernel,by decide +kernel⟩
abbrev zce:Stmt:=zay (top 18) 0
theorem zjh:FnScope ["self"] ["self"] (zac zce):=⟨rfl,rfl,rfl,by decide +kernel,rfl,by decide +kernel,by decide +kernel⟩
abbrev zbf:Stmt:=zay (top 18) 1
theorem zfs:FnScope ["self", "name"] ["self", "name"] (zac zbf):=⟨rfl,rfl,rfl,by decide +kernel,rfl,by decide +kernel,by decide +kernel⟩
abbrev zcu:Stmt:=zay (top 18) 2
theorem zjv:FnScope ["self", "name", "share"] ["self", "name", "share"] (zac zcu):=⟨rfl,rfl,rfl,by decide +kernel,rfl,by decide +kernel,by decide +kernel⟩
abbrev zcf:Stmt:=zay (top 18) 3
theorem zji:FnScope ["self", "name"] ["self", "name"] (zac zcf):=⟨rfl,rfl,rfl,by decide +kernel,rfl,by decide +kernel,by decide +kernel⟩
abbrev zcb:Stmt:=zay (top 18) 5
theorem zid:FnScope ["self"] ["self"] (zac zcb):=⟨rfl,rfl,rfl,by decide +kernel,rfl,by decide +kernel,by decide +kernel⟩
abbrev zcv:Stmt:=zay (top 21) 0
theorem zjw:FnScope ["self", "most"] ["self", "most"] (zac zcv):=⟨rfl,rfl,rfl,by decide +kernel,rfl,by decide +kernel,by decide +kernel⟩
abbrev zcg:Stmt:=zay (top 21) 1
theorem zjj:FnScope ["self", "name"] ["self", "name"] (zac zcg):=⟨rfl,rfl,rfl,by decide +kernel,rfl,by decide +kernel,by decide +kernel⟩
abbrev zch:Stmt:=zay (top 21) 2
theorem zjk:FnScope ["self", "name"] ["self", "name"] (zac zch):=⟨rfl,rfl,rfl,by decide +kernel,rfl,by decide +kernel,by decide +kernel⟩
abbrev zcq:Stmt:=zay (top 21) 7
abbrev zbh:Stmt:=zay (top 20) 0
theorem zge:FnScope ["self", "most"] ["self", "most"] (zac zbh):=⟨rfl,rfl,rfl,by decide +kernel,rfl,by decide +kernel,by decide +kernel⟩
abbrev zdi:Stmt:=zay (top 20) 1
theorem zlj:FnScope ["self", "name", "share"] ["self", "name", "share"] (zac zdi):=⟨rfl,rfl,rfl,by decide +kernel,rfl,by decide +kernel,by decide +kernel⟩
abbrev zcw:Stmt:=zay (top 20) 2
theorem zjx:FnScope ["self", "name"] ["self", "name"] (zac zcw):=⟨rfl,rfl,rfl,by decide +kernel,rfl,by decide +kernel,by decide +kernel⟩
abbrev zci:Stmt:=zay (top 20) 4
theorem zjl:FnScope ["self"] ["self"] (zac zci):=⟨rfl,rfl,rfl,by decide +kernel,rfl,by decide +kernel,by decide +kernel⟩
abbrev zcx:Stmt:=zay (top 22) 0
theorem zjy:FnScope ["self", "most"] ["self", "most"] (zac zcx):=⟨rfl,rfl,rfl,by decide +kernel,rfl,by decide +kernel,by decide +kernel⟩
abbrev zcj:Stmt:=zay (top 22) 1
theorem zjm:FnScope ["self", "name"] ["self", "name"] (zac zcj):=⟨rfl,rfl,rfl,by decide +kernel,rfl,by decide +kernel,by decide +kernel⟩
abbrev zck:Stmt:=zay (top 22) 2
theorem zjn:FnScope ["self", "name"] ["self", "name"] (zac zck):=⟨rfl,rfl,rfl,by decide +kernel,rfl,by decide +kernel,by decide +kernel⟩
abbrev zdq:Stmt:=zay (top 22) 9
abbrev zbi:Stmt:=zay (top 20) 0
theorem zgf:FnScope ["self", "most"] ["self", "most"] (zac zbi):=⟨rfl,rfl,rfl,by decide +kernel,rfl,by decide +kernel,by decide +kernel⟩
abbrev zdj:Stmt:=zay (top 20) 1
theorem zlk:FnScope ["self", "name", "share"] ["self", "name", "share"] (zac zdj):=⟨rfl,rfl,rfl,by decide +kernel,rfl,by decide +kernel,by decide +kernel⟩
abbrev zcy:Stmt:=zay (top 20) 2
theorem zjz:FnScope ["self", "name"] ["self", "name"] (zac zcy):=⟨rfl,rfl,rfl,by decide +kernel,rfl,by decide +kernel,by decide +kernel⟩
abbrev zcl:Stmt:=zay (top 20) 4
theorem zjo:FnScope ["self"] ["self"] (zac zcl):=⟨rfl,rfl,rfl,by decide +kernel,rfl,by decide +kernel,by decide +kernel⟩
abbrev zbu:Stmt:=zay (top 34) 0
theorem zmz:FnScope ["self", "above", "chooser", "room"] ["self", "above", "chooser", "room"] (zac zbu):=⟨rfl,rfl,rfl,by decide +kernel,rfl,by decide +kernel,by decide +kernel⟩
abbrev zbj:Stmt:=zay (top 34) 1
theorem zgg:FnScope ["self"] ["self"] (zac zbj):=⟨rfl,rfl,rfl,by decide +kernel,rfl,by decide +kernel,by decide +kernel⟩
abbrev zbk:Stmt:=zay (top 34) 2
theorem zgh:FnScope ["self", "length"] ["self", "length"] (zac zbk):=⟨rfl,rfl,rfl,by decide +kernel,rfl,by decide +kernel,by decide +kernel⟩
abbrev zbv:Stmt:=zay (top 35) 0
theorem zna:FnScope ["self", "most", "kind"] ["self", "most", "kind"] (zac zbv):=⟨rfl,rfl,rfl,by decide +kernel,rfl,by decide +kernel,by decide +kernel⟩
abbrev zbn:Stmt:=zay (top 35) 1
theorem zgz:FnScope ["self", "name"] ["self", "name"] (zac zbn):=⟨rfl,rfl,rfl,by decide +kernel,rfl,by decide +kernel,by decide +kernel⟩
abbrev zbp:Stmt:=zay (top 35) 2
theorem zhn:FnScope ["self", "name"] ["self", "name"] (zac zbp):=⟨rfl,rfl,rfl,by decide +kernel,rfl,by decide +kernel,by decide +kernel⟩
abbrev zbo:Stmt:=zay (top 35) 3
theorem zha:FnScope ["self", "under", "kind"] ["self", "under", "kind"] (zac zbo):=⟨rfl,rfl,rfl,by decide +kernel,rfl,by decide +kernel,by decide +kernel⟩
abbrev zcc:Stmt:=zay (top 35) 4
theorem zoc:FnScope ["self", "name", "under", "kind", "share", "room"] ["self", "name", "under", "kind", "share", "room"] (zac zcc):=⟨rfl,rfl,rfl,by decide +kernel,rfl,by decide +kernel,by decide +kernel⟩
abbrev zdt:Stmt:=zay (top 35) 5
theorem znb:FnScope ["self", "name"] ["self", "name"] (zac zdt):=⟨rfl,rfl,rfl,by decide +kernel,rfl,by decide +kernel,by decide +kernel⟩
abbrev zdu:Stmt:=zay (top 35) 10
theorem sc_Tree_come:FnScope ["self", "name", "length", "number"] ["self", "name", "length"] (zac zdu):=⟨rfl,rfl,rfl,by decide +kernel,rfl,by decide +kernel,by decide +kernel⟩
abbrev zel:Stmt:=zay (top 35) 12
theorem zod:FnScope ["self"] ["self"] (zac zel):=⟨rfl,rfl,rfl,by decide +kernel,rfl,by decide +kernel,by decide +kernel⟩
abbrev zcz:Stmt:=zay (top 35) 13
theorem zka:FnScope ["self"] ["self"] (zac zcz):=⟨rfl,rfl,rfl,by decide +kernel,rfl,by decide +kernel,by decide +kernel⟩
abbrev zcm:Stmt:=zay (top 35) 14
theorem zjp:FnScope ["self", "name"] ["self", "name"] (zac zcm):=⟨rfl,rfl,rfl,by decide +kernel,rfl,by decide +kernel,by decide +kernel⟩
abbrev zem:Stmt:=zay (top 35) 15
theorem zoe:FnScope ["self", "name"] ["self", "name"] (zac zem):=⟨rfl,rfl,rfl,by decide +kernel,rfl,by decide +kernel,by decide +kernel⟩
abbrev zdk:Stmt:=zay (top 35) 16
theorem sc_Tree_below:FnScope ["self", "name", "chooser"] ["self", "name"] (zac zdk):=⟨rfl,rfl,rfl,by decide +kernel,rfl,by decide +kernel,by decide +kernel⟩
abbrev zbl:Stmt:=zay (top 35) 20
theorem zgi:FnScope ["self", "name"] ["self", "name"] (zac zbl):=⟨rfl,rfl,rfl,by decide +kernel,rfl,by decide +kernel,by decide +kernel⟩
abbrev zbw:Stmt:=zay (top 35) 21
theorem sc_Tree_from_road:FnScope ["self", "name", "names"] ["self", "name"] (zac zbw):=⟨rfl,rfl,rfl,by decide +kernel,rfl,by decide +kernel,by decide +kernel⟩
structure Txt (K:PySem.W.Frag) (mg:Str->Option Value) (c_NoName:Addr) (c_Taken:Addr) (c_NoClass:Addr) (c_NoPlace:Addr) (c_NoShare:Addr) (c_NoLength:Addr) (c_Members:Addr) (c_Chooser:Addr) (c_Starts:Addr) (c_Rounds:Addr) (c_Node:Addr) (c_Tree:Addr):Prop where
 mg_NoName:mg "NoName" = some (.ref c_NoName)
 xc_NoName:XC K c_NoName
 kp_NoName:PySem.W.keepIn K (.ref c_NoName)=true
 ex_NoName:PySem.W.excIn K c_NoName bmV "ValueError.__new__" = true
 mg_Taken:mg "Taken" = some (.ref c_Taken)
 xc_Taken:XC K c_Taken
 kp_Taken:PySem.W.keepIn K (.ref c_Taken)=true
 ex_Taken:PySem.W.excIn K c_Taken bmV "ValueError.__new__" = true
 mg_NoClass:mg "NoClass" = some (.ref c_NoClass)
 xc_NoClass:XC K c_NoClass
 kp_NoClass:PySem.W.keepIn K (.ref c_NoClass)=true
 ex_NoClass:PySem.W.excIn K c_NoClass bmV "ValueError.__new__" = true
 mg_NoPlace:mg "NoPlace" = some (.ref c_NoPlace)
 xc_NoPlace:XC K c_NoPlace
 kp_NoPlace:PySem.W.keepIn K (.ref c_NoPlace)=true
 ex_NoPlace:PySem.W.excIn K c_NoPlace bmV "ValueError.__new__" = true
 mg_NoShare:mg "NoShare" = some (.ref c_NoShare)
 xc_NoShare:XC K c_NoShare
 kp_NoShare:PySem.W.keepIn K (.ref c_NoShare)=true
 ex_NoShare:PySem.W.excIn K c_NoShare bmV "ValueError.__new__" = true
 mg_NoLength:mg "NoLength" = some (.ref c_NoLength)
 xc_NoLength:XC K c_NoLength
 kp_NoLength:PySem.W.keepIn K (.ref c_NoLength)=true
 ex_NoLength:PySem.W.excIn K c_NoLength bmV "ValueError.__new__" = true
 sub_NoName_NoName:PySem.W.subIn K (.ref c_NoName) (.ref c_NoName)=some true
 kit_NoName_NoName:PySem.W.kitOne K (.ref c_NoName) (.ref c_NoName)=some true
 sub_NoName_Taken:PySem.W.subIn K (.ref c_NoName) (.ref c_Taken)=some false
 kit_NoName_Taken:PySem.W.kitOne K (.ref c_NoName) (.ref c_Taken)=some false
 sub_NoName_NoClass:PySem.W.subIn K (.ref c_NoName) (.ref c_NoClass)=some false
 kit_NoName_NoClass:PySem.W.kitOne K (.ref c_NoName) (.ref c_NoClass)=some false
 sub_NoName_NoPlace:PySem.W.subIn K (.ref c_NoName) (.ref c_NoPlace)=some false
 kit_NoName_NoPlace:PySem.W.kitOne K (.ref c_NoName) (.ref c_NoPlace)=some false
 sub_NoName_NoShare:PySem.W.subIn K (.ref c_NoName) (.ref c_NoShare)=some false
 kit_NoName_NoShare:PySem.W.kitOne K (.ref c_NoName) (.ref c_NoShare)=some false
 sub_NoName_NoLength:PySem.W.subIn K (.ref c_NoName) (.ref c_NoLength)=some false
 kit_NoName_NoLength:PySem.W.kitOne K (.ref c_NoName) (.ref c_NoLength)=some false
 kit_NoName_ValueError:PySem.W.kitOne K (.ref c_NoName) (.type "ValueError")=some true
 sub_Taken_NoName:PySem.W.subIn K (.ref c_Taken) (.ref c_NoName)=some false
 kit_Taken_NoName:PySem.W.kitOne K (.ref c_Taken) (.ref c_NoName)=some false
 sub_Taken_Taken:PySem.W.subIn K (.ref c_Taken) (.ref c_Taken)=some true
 kit_Taken_Taken:PySem.W.kitOne K (.ref c_Taken) (.ref c_Taken)=some true
 sub_Taken_NoClass:PySem.W.subIn K (.ref c_Taken) (.ref c_NoClass)=some false
 kit_Taken_NoClass:PySem.W.kitOne K (.ref c_Taken) (.ref c_NoClass)=some false
 sub_Taken_NoPlace:PySem.W.subIn K (.ref c_Taken) (.ref c_NoPlace)=some false
 kit_Taken_NoPlace:PySem.W.kitOne K (.ref c_Taken) (.ref c_NoPlace)=some false
 sub_Taken_NoShare:PySem.W.subIn K (.ref c_Taken) (.ref c_NoShare)=some false
 kit_Taken_NoShare:PySem.W.kitOne K (.ref c_Taken) (.ref c_NoShare)=some false
 sub_Taken_NoLength:PySem.W.subIn K (.ref c_Taken) (.ref c_NoLength)=some false
 kit_Taken_NoLength:PySem.W.kitOne K (.ref c_Taken) (.ref c_NoLength)=some false
 kit_Taken_ValueError:PySem.W.kitOne K (.ref c_Taken) (.type "ValueError")=some true
 sub_NoClass_NoName:PySem.W.subIn K (.ref c_NoClass) (.ref c_NoName)=some false
 kit_NoClass_NoName:PySem.W.kitOne K (.ref c_NoClass) (.ref c_NoName)=some false
 sub_NoClass_Taken:PySem.W.subIn K (.ref c_NoClass) (.ref c_Taken)=some false
 kit_NoClass_Taken:PySem.W.kitOne K (.ref c_NoClass) (.ref c_Taken)=some false
 sub_NoClass_NoClass:PySem.W.subIn K (.ref c_NoClass) (.ref c_NoClass)=some true
 kit_NoClass_NoClass:PySem.W.kitOne K (.ref c_NoClass) (.ref c_NoClass)=some true
 sub_NoClass_NoPlace:PySem.W.subIn K (.ref c_NoClass) (.ref c_NoPlace)=some false
 kit_NoClass_NoPlace:PySem.W.kitOne K (.ref c_NoClass) (.ref c_NoPlace)=some false
 sub_NoClass_NoShare:PySem.W.subIn K (.ref c_NoClass) (.ref c_NoShare)=some false
 kit_NoClass_NoShare:PySem.W.kitOne K (.ref c_NoClass) (.ref c_NoShare)=some false
 sub_NoClass_NoLength:PySem.W.subIn K (.ref c_NoClass) (.ref c_NoLength)=some false
 kit_NoClass_NoLength:PySem.W.kitOne K (.ref c_NoClass) (.ref c_NoLength)=some false
 kit_NoClass_ValueError:PySem.W.kitOne K (.ref c_NoClass) (.type "ValueError")=some true
 sub_NoPlace_NoName:PySem.W.subIn K (.ref c_NoPlace) (.ref c_NoName)=some false
 kit_NoPlace_NoName:PySem.W.kitOne K (.ref c_NoPlace) (.ref c_NoName)=some false
 sub_NoPlace_Taken:PySem.W.subIn K (.ref c_NoPlace) (.ref c_Taken)=some false
 kit_NoPlace_Taken:PySem.W.kitOne K (.ref c_NoPlace) (.ref c_Taken)=some false
 sub_NoPlace_NoClass:PySem.W.subIn K (.ref c_NoPlace) (.ref c_NoClass)=some false
 kit_NoPlace_NoClass:PySem.W.kitOne K (.ref c_NoPlace) (.ref c_NoClass)=some false
 sub_NoPlace_NoPlace:PySem.W.subIn K (.ref c_NoPlace) (.ref c_NoPlace)=some true
 kit_NoPlace_NoPlace:PySem.W.kitOne K (.ref c_NoPlace) (.ref c_NoPlace)=some true
 sub_NoPlace_NoShare:PySem.W.subIn K (.ref c_NoPlace) (.ref c_NoShare)=some false
 kit_NoPlace_NoShare:PySem.W.kitOne K (.ref c_NoPlace) (.ref c_NoShare)=some false
 sub_NoPlace_NoLength:PySem.W.subIn K (.ref c_NoPlace) (.ref c_NoLength)=some false
 kit_NoPlace_NoLength:PySem.W.kitOne K (.ref c_NoPlace) (.ref c_NoLength)=some false
 kit_NoPlace_ValueError:PySem.W.kitOne K (.ref c_NoPlace) (.type "ValueError")=some true
 sub_NoShare_NoName:PySem.W.subIn K (.ref c_NoShare) (.ref c_NoName)=some false
 kit_NoShare_NoName:PySem.W.kitOne K (.ref c_NoShare) (.ref c_NoName)=some false
 sub_NoShare_Taken:PySem.W.subIn K (.ref c_NoShare) (.ref c_Taken)=some false
 kit_NoShare_Taken:PySem.W.kitOne K (.ref c_NoShare) (.ref c_Taken)=some false
 sub_NoShare_NoClass:PySem.W.subIn K (.ref c_NoShare) (.ref c_NoClass)=some false
 kit_NoShare_NoClass:PySem.W.kitOne K (.ref c_NoShare) (.ref c_NoClass)=some false
 sub_NoShare_NoPlace:PySem.W.subIn K (.ref c_NoShare) (.ref c_NoPlace)=some false
 kit_NoShare_NoPlace:PySem.W.kitOne K (.ref c_NoShare) (.ref c_NoPlace)=some false
 sub_NoShare_NoShare:PySem.W.subIn K (.ref c_NoShare) (.ref c_NoShare)=some true
 kit_NoShare_NoShare:PySem.W.kitOne K (.ref c_NoShare) (.ref c_NoShare)=some true
 sub_NoShare_NoLength:PySem.W.subIn K (.ref c_NoShare) (.ref c_NoLength)=some false
 kit_NoShare_NoLength:PySem.W.kitOne K (.ref c_NoShare) (.ref c_NoLength)=some false
 kit_NoShare_ValueError:PySem.W.kitOne K (.ref c_NoShare) (.type "ValueError")=some true
 sub_NoLength_NoName:PySem.W.subIn K (.ref c_NoLength) (.ref c_NoName)=some false
 kit_NoLength_NoName:PySem.W.kitOne K (.ref c_NoLength) (.ref c_NoName)=some false
 sub_NoLength_Taken:PySem.W.subIn K (.ref c_NoLength) (.ref c_Taken)=some false
 kit_NoLength_Taken:PySem.W.kitOne K (.ref c_NoLength) (.ref c_Taken)=some false
 sub_NoLength_NoClass:PySem.W.subIn K (.ref c_NoLength) (.ref c_NoClass)=some false
 kit_NoLength_NoClass:PySem.W.kitOne K (.ref c_NoLength) (.ref c_NoClass)=some false
 sub_NoLength_NoPlace:PySem.W.subIn K (.ref c_NoLength) (.ref c_NoPlace)=some false
 kit_NoLength_NoPlace:PySem.W.kitOne K (.ref c_NoLength) (.ref c_NoPlace)=some false
 sub_NoLength_NoShare:PySem.W.subIn K (.ref c_NoLength) (.ref c_NoShare)=some false
 kit_NoLength_NoShare:PySem.W.kitOne K (.ref c_NoLength) (.ref c_NoShare)=some false
 sub_NoLength_NoLength:PySem.W.subIn K (.ref c_NoLength) (.ref c_NoLength)=some true
 kit_NoLength_NoLength:PySem.W.kitOne K (.ref c_NoLength) (.ref c_NoLength)=some true
 kit_NoLength_ValueError:PySem.W.kitOne K (.ref c_NoLength) (.type "ValueError")=some true
 ic_Starts:PySem.W.findIn K (.ref c_Starts) "__class__" = some (some (.builtin "object.__class__"))
 io_Starts:PySem.W.mroIn K c_Starts (.type "object")=some true
 kin_Starts_Chooser:PySem.W.kitOne K (.ref c_Starts) (.ref c_Chooser)=some true
 ic_Rounds:PySem.W.findIn K (.ref c_Rounds) "__class__" = some (some (.builtin "object.__class__"))
 io_Rounds:PySem.W.mroIn K c_Rounds (.type "object")=some true
 kin_Rounds_Chooser:PySem.W.kitOne K (.ref c_Rounds) (.ref c_Chooser)=some true
 ikg:PySem.W.specialIn K (.builtin "object.__class__") "__get__" = some (some (.builtin "getset_descriptor.__get__"))
 ikt:PySem.W.takesIn K (.builtin "object.__class__")=some true
 no_abs:mg "abs" = none
 no_all:mg "all" = none
 no_len:mg "len" = none
 no_range:mg "range" = none
 no_isinstance:mg "isinstance" = none
 no_bool:mg "bool" = none
 no_int:mg "int" = none
 no_sum:mg "sum" = none
 no_min:mg "min" = none
 no_list:mg "list" = none
 mg_GREATEST_SHARE:∃ t,mg "GREATEST_SHARE" = some (.int 1000000 t)
 mg_GREATEST_LENGTH:∃ t,mg "GREATEST_LENGTH" = some (.int 1000000 t)
 mg_LETTERS:∃ t,mg "LETTERS" = some (.str (Str.ofString "abcdefghijklmnopqrstuvwxyz") t)
 mg_LONGEST_NAME:∃ t,mg "LONGEST_NAME" = some (.int 8 t)
 mg_ROAD:∃ t,mg "ROAD" = some (.str (Str.ofString "road") t)
 mg_INNER_KINDS:∃ a,mg "INNER_KINDS" = some (.ref a)/\∀ H,SqT K H a [.str (Str.ofString "starts"),.str (Str.ofString "rounds")]
 mg_LONGEST_WAY:∃ t,mg "LONGEST_WAY" = some (.int 5 t)
 mg_LEAF:∃ t,mg "LEAF" = some (.str (Str.ofString "leaf") t)
 src_divisor:Src K mg "divisor" zfg ["one", "other"]
 src_ratio:Src K mg "ratio" zhx ["top", "bottom"]
 src_under:Src K mg "under" zje ["one", "other"]
 src_greater:Src K mg "greater" zfr ["one", "other"]
 src_check_share:Src K mg "check_share" zdm ["share"]
 src_check_most:Src K mg "check_most" zdx ["most"]
 src_is_name:Src K mg "is_name" zfh ["text"]
 src_chooser_of:Src K mg "chooser_of" zdy ["kind", "most"]
 src__law_cell_at:Src K mg "_law_cell_at" zda ["_law_script", "_law_k"]
 src__law_stream:Src K mg "_law_stream" zdn ["_law_cell", "_law_many"]
 src__law_whole:Src K mg "_law_whole" zdz ["_law_found"]
 src__law_name:Src K mg "_law_name" zeh ["_law_world", "_law_xs"]
 src__law_come:Src K mg "_law_come" zei ["_law_tree", "_law_name_here", "_law_length_here"]
 src__law_take:Src K mg "_law_take" zej ["_law_tree", "_law_name_here"]
 src__law_waiting:Src K mg "_law_waiting" zdb ["_law_tree", "_law_name_here"]
 src__law_due_waiting:Src K mg "_law_due_waiting" zbr ["_law_world", "_law_name_here"]
 src__law_due_come:Src K mg "_law_due_come" zco ["_law_tree", "_law_world", "_law_name_here", "_law_length_here", "_law_counted"]
 src__law_due_take:Src K mg "_law_due_take" zcp ["_law_world", "_law_name_here"]
 src__law_put:Src K mg "_law_put" zev ["_law_tree", "_law_world", "_law_xs"]
 src__law_length:Src K mg "_law_length" zdo ["_law_most", "_law_xs"]
 src__law_deed:Src K mg "_law_deed" zek ["_law_tree", "_law_world", "_law_xs", "_law_counted"]
 src__law_stands:Src K mg "_law_stands" zdp ["_law_tree", "_law_world", "_law_name_here"]
 mg_Members:mg "Members" = some (.ref c_Members)
 cl_Members:Cls K c_Members
 na_Members_shares:NoAttr K c_Members "shares"
 in_Members:SrcK K c_Members "Members.__init__" zce ["self"] [[]]
 me_Members_check_name:SrcM K c_Members "check_name" "Members.check_name" zbf ["self", "name"] [[]]
 me_Members_put:SrcM K c_Members "put" "Members.put" zcu ["self", "name", "share"] [[]]
 me_Members_take:SrcM K c_Members "take" "Members.take" zcf ["self", "name"] [[]]
 me_Members_names:SrcM K c_Members "names" "Members.names" zcb ["self"] [[]]
 mg_Chooser:mg "Chooser" = some (.ref c_Chooser)
 mg_Starts:mg "Starts" = some (.ref c_Starts)
 cl_Starts:Cls K c_Starts
 na_Starts_reached:NoAttr K c_Starts "reached"
 na_Starts_tags:NoAttr K c_Starts "tags"
 na_Starts_greatest_steps:NoAttr K c_Starts "greatest_steps"
 na_Starts_most:NoAttr K c_Starts "most"
 na_Starts_members:NoAttr K c_Starts "members"
 na_Starts_chosen:NoAttr K c_Starts "chosen"
 in_Starts:SrcK K c_Starts "Starts.__init__" zcv ["self", "most"] [[]]
 me_Starts_enter:SrcM K c_Starts "enter" "Starts.enter" zcg ["self", "name"] [[]]
 me_Starts_leave:SrcM K c_Starts "leave" "Starts.leave" zch ["self", "name"] [[]]
 me_Starts_stands:SrcM K c_Starts "stands" "Starts.stands" zcq ["self", "name"] [[]]
 up_Starts_up_Chooser:SrcU K c_Chooser "__init__" "Chooser.__init__" zbh ["self", "most"]
 me_Starts_put:SrcM K c_Starts "put" "Chooser.put" zdi ["self", "name", "share"] [[]]
 me_Starts_take:SrcM K c_Starts "take" "Chooser.take" zcw ["self", "name"] [[]]
 me_Starts_names:SrcM K c_Starts "names" "Chooser.names" zci ["self"] [[]]
 mg_Rounds:mg "Rounds" = some (.ref c_Rounds)
 cl_Rounds:Cls K c_Rounds
 na_Rounds_queue:NoAttr K c_Rounds "queue"
 na_Rounds_rests:NoAttr K c_Rounds "rests"
 na_Rounds_turn:NoAttr K c_Rounds "turn"
 na_Rounds_most:NoAttr K c_Rounds "most"
 na_Rounds_members:NoAttr K c_Rounds "members"
 na_Rounds_chosen:NoAttr K c_Rounds "chosen"
 in_Rounds:SrcK K c_Rounds "Rounds.__init__" zcx ["self", "most"] [[]]
 me_Rounds_enter:SrcM K c_Rounds "enter" "Rounds.enter" zcj ["self", "name"] [[]]
 me_Rounds_leave:SrcM K c_Rounds "leave" "Rounds.leave" zck ["self", "name"] [[]]
 me_Rounds_rest:SrcM K c_Rounds "rest" "Rounds.rest" zdq ["self", "name"] [[]]
 up_Rounds_up_Chooser:SrcU K c_Chooser "__init__" "Chooser.__init__" zbi ["self", "most"]
 me_Rounds_put:SrcM K c_Rounds "put" "Chooser.put" zdj ["self", "name", "share"] [[]]
 me_Rounds_take:SrcM K c_Rounds "take" "Chooser.take" zcy ["self", "name"] [[]]
 me_Rounds_names:SrcM K c_Rounds "names" "Chooser.names" zcl ["self"] [[]]
 mg_Node:mg "Node" = some (.ref c_Node)
 cl_Node:Cls K c_Node
 na_Node_above:NoAttr K c_Node "above"
 na_Node_chooser:NoAttr K c_Node "chooser"
 na_Node_room:NoAttr K c_Node "room"
 na_Node_bucket:NoAttr K c_Node "bucket"
 na_Node_queue:NoAttr K c_Node "queue"
 in_Node:SrcK K c_Node "Node.__init__" zbu ["self", "above", "chooser", "room"] [[],[V.non]]
 me_Node_has_children:SrcM K c_Node "has_children" "Node.has_children" zbj ["self"] [[]]
 me_Node_has_room_for:SrcM K c_Node "has_room_for" "Node.has_room_for" zbk ["self", "length"] [[]]
 mg_Tree:mg "Tree" = some (.ref c_Tree)
 cl_Tree:Cls K c_Tree
 na_Tree_most:NoAttr K c_Tree "most"
 na_Tree_nodes:NoAttr K c_Tree "nodes"
 na_Tree_time:NoAttr K c_Tree "time"
 na_Tree_free:NoAttr K c_Tree "free"
 na_Tree_counted:NoAttr K c_Tree "counted"
 na_Tree_gone:NoAttr K c_Tree "gone"
 in_Tree:SrcK K c_Tree "Tree.__init__" zbv ["self", "most", "kind"] [[],[V.str (Str.ofString "starts")]]
 me_Tree_check_class:SrcM K c_Tree "check_class" "Tree.check_class" zbn ["self", "name"] [[]]
 me_Tree_check_leaf:SrcM K c_Tree "check_leaf" "Tree.check_leaf" zbp ["self", "name"] [[]]
 me_Tree_check_place:SrcM K c_Tree "check_place" "Tree.check_place" zbo ["self", "under", "kind"] [[]]
 me_Tree_put:SrcM K c_Tree "put" "Tree.put" zcc ["self", "name", "under", "kind", "share", "room"] [[],[V.non]]
 me_Tree_take:SrcM K c_Tree "take" "Tree.take" zdt ["self", "name"] [[]]
 me_Tree_come:SrcM K c_Tree "come" "Tree.come" zdu ["self", "name", "length"] [[]]
 me_Tree_now:SrcM K c_Tree "now" "Tree.now" zel ["self"] [[]]
 me_Tree_goings:SrcM K c_Tree "goings" "Tree.goings" zcz ["self"] [[]]
 me_Tree_waiting:SrcM K c_Tree "waiting" "Tree.waiting" zcm ["self", "name"] [[]]
 me_Tree_way:SrcM K c_Tree "way" "Tree.way" zem ["self", "name"] [[]]
 me_Tree_below:SrcM K c_Tree "below" "Tree.below" zdk ["self", "name"] [[]]
 me_Tree_chooser_over:SrcM K c_Tree "chooser_over" "Tree.chooser_over" zbl ["self", "name"] [[]]
 me_Tree_from_road:SrcM K c_Tree "from_road" "Tree.from_road" zbw ["self", "name"] [[]]
section
variable {P:Program} {w:World} {K:PySem.W.Frag} {mg:Str->Option Value} {base:Heap} {c_NoName c_Taken c_NoClass c_NoPlace c_NoShare c_NoLength c_Members c_Chooser c_Starts c_Rounds c_Node c_Tree:Addr}
local macro_rules | `(tactic| walk_at "rdc")=>`(tactic| (walk_at "rd"; (try simp only [L2.tDPop1,L2.tClsX]); walk_at "rd"))
theorem zsr (T:Txt K mg c_NoName c_Taken c_NoClass c_NoPlace c_NoShare c_NoLength c_Members c_Chooser c_Starts c_Rounds c_Node c_Tree):Def P w K mg base (CXX P w) 1 "divisor" ["one", "other"] (spInt2 Sw.dv):=by
 refine T.src_divisor.okN (k:=0) sc_divisor (fun vs H Q E h=>?_) (fun f cdv A outer s H vs Q E hr h=>?_)
 ·obtain ⟨a,b,rfl,_⟩:=h
  rfl
 ·obtain ⟨a,b,rfl,k⟩:=h
  refine ⟨_,(zad (zbg (i:=2) sc_divisor.nd rfl (by first|left;rfl|right;rfl) (zbq zox rfl T.no_abs boot_abs (zaa (pv 0) zag))) (zad (zbg (i:=3) sc_divisor.nd rfl (by first|left;rfl|right;rfl) (zbq zox rfl T.no_abs boot_abs (zaa (pv 1) zag))) (zad (zot PassesOwn.never (zau op_ne (pv 3) zak (zba _)) (zad (zbg (i:=4) sc_divisor.nd rfl (by first|left;rfl|right;rfl) (pe_op zde (pv 2) (pv 3))) (zad (zbg (i:=2) sc_divisor.nd rfl (by first|left;rfl|right;rfl) (pv 3)) (zaf (zbg (i:=3) sc_divisor.nd rfl (by first|left;rfl|right;rfl) (pv 4)))))) (zaf (zar (pv 2)))))),?_⟩
  refine ⟨_,rfl,a,rfl,?_⟩
  refine ⟨_,rfl,b,rfl,?_⟩
  refine zrr (fun σ H'=>H'=H/\∃ g s r,σ = [some (.int a),some (.int b),some (.int g),some (.int s),r]/\0<=g/\0<=s/\Sw.dv g s=Sw.dv a b)
   (fun σ _=>match σ with | [_,_,_,some (.int s),_]=>s.toNat | _=>0) ⟨rfl,_,_,none,rfl,?_,?_,Sw.dv_abs a b⟩ ?_
  ·split <;> omega
  ·split <;> omega
  ·rintro σ H' ⟨rfl,g,s,r,rfl,hg,hs,e⟩
   refine ⟨!decide (V.int s=V.int 0),fun Q hQ=>⟨_,rfl,rfl,_,rfl,hQ⟩,fun hb=>?_,fun hb=>?_⟩
   ·have hs0:s≠0:=by intro z; subst z; simp at hb
    have hsp:0<s:=by omega
    refine ⟨_,rfl,_,rfl,_,_,rfl,rfl,hsp,?_⟩
    refine ⟨_,rfl,?_⟩
    refine ⟨_,rfl,?_⟩
    refine ⟨⟨rfl,s,g % s,_,rfl,hs,Int.emod_nonneg g hs0,by rw [Sw.dv_step]; exact e⟩,?_⟩
    show (g % s).toNat<s.toNat
    have:=Int.emod_lt_of_pos g hsp
    have:=Int.emod_nonneg g hs0
    omega
   ·have hs0:s = 0:=by
     have:V.int s=V.int 0:=by simpa using hb
     exact V.int.inj this
    subst hs0
    rw [Sw.dv_zero g hg] at e
    refine ⟨_,rfl,?_⟩
    show Q (.int g) H'
    rw [e]; exact k
def spRat:Sp:=fun vs H Q _=>∃ t b z,vs = [.int t,.int b]/\z<=5000/\Sw.Sz z b/\(b≠0->∀ p,H p=none->Q (.ref p) (upd H p (.tup (fq ((t:Rat) / (b:Rat))))))/\(b = 0->False)
theorem zss (T:Txt K mg c_NoName c_Taken c_NoClass c_NoPlace c_NoShare c_NoLength c_Members c_Chooser c_Starts c_Rounds c_Node c_Tree):Def P w K mg base (CXX P w) 2 "ratio" ["top", "bottom"] spRat:=by
 have D_divisor:=zsr (P:=P) (w:=w) (base:=base) T
 refine T.src_ratio.okN (k:=1) sc_ratio (fun vs H Q E h=>?_) (fun f cdv A outer s H vs Q E hr h=>?_)
 ·obtain ⟨t,b,z,rfl,_⟩:=h
  rfl
 ·obtain ⟨t,b,z,rfl,z5,sb,k,hb⟩:=h
  refine ⟨_,(zad (ps_if (zau op_eq (pv 1) zak (zba _)) (zaf zta) zaq) (zad (zbg (i:=2) sc_ratio.nd rfl (by first|left;rfl|right;rfl) (zbb D_divisor (hr.mono (by decide)) rfl passN (zaa (pv 0) (zaa (pv 1) zag)))) (zad (ps_if (zau op_lt (pv 1) zak (zba _)) (zaf (zbg (i:=2) sc_ratio.nd rfl (by first|left;rfl|right;rfl) (pe_un zov (pv 2)))) zaq) (zaf (zar (zdh (zaa (pe_op zoz (pv 0) (pv 2)) (zaa (pe_op zoz (pv 1) (pv 2)) zag)))))))),?_⟩
  show tSeq _ _ _ [some (.int t),some (.int b),none] H
  refine zae fun R hR=>?_
  walk_at "rd"
  refine iteN hb (hR _ _ ?_)
  have k:=k hb
  rw [<- zxw hb] at k
  have hg:0<Sw.dv t b:=Sw.dv_pos hb
  have hz:Sw.Sz 5000 (Sw.dv t b):=(sb.dvd (Sw.dv_r t b) hb).mono z5
  refine zae fun R hR=>?_
  walk_at "rd"
  refine hR _ _ ?_
  refine zae fun R hR=>?_
  have fin:∀ c:Int,(c=Sw.dv t b/\¬ b<0)\/(c = -(Sw.dv t b)/\b<0)->R [some (.int t),some (.int b),some (.int c)] H:=fun c hc=>by
   refine hR _ _ ?_
   walk_at "rd"
   have c0:c≠0:=by rcases hc with ⟨e,_⟩ | ⟨e,_⟩ <;> omega
   have cz:Sw.Sz 5000 c:=by
    rcases hc with ⟨e,_⟩ | ⟨e,_⟩
    ·rw [e]; exact hz
    ·rw [e]; exact hz.neg
   have d1:c ∣ t:=by
    rcases hc with ⟨e,_⟩ | ⟨e,_⟩
    ·rw [e]; exact Sw.dv_l t b
    ·rw [e]; exact Int.neg_dvd.mpr (Sw.dv_l t b)
   have d2:c ∣ b:=by
    rcases hc with ⟨e,_⟩ | ⟨e,_⟩
    ·rw [e]; exact Sw.dv_r t b
    ·rw [e]; exact Int.neg_dvd.mpr (Sw.dv_r t b)
   have e1:t.fdiv c=Sw.rN t b:=by
    rw [Int.fdiv_eq_ediv_of_dvd d1]
    unfold Sw.rN
    rcases hc with ⟨e,q⟩ | ⟨e,q⟩
    ·rw [if_neg q,e]
    ·rw [if_pos q,e]
   have e2:b.fdiv c=Sw.rD t b:=by
    rw [Int.fdiv_eq_ediv_of_dvd d2]
    unfold Sw.rD
    rcases hc with ⟨e,q⟩ | ⟨e,q⟩
    ·rw [if_neg q,e]
    ·rw [if_pos q,e]
   rw [e1,e2]
   exact ⟨⟨c0,cz⟩,⟨c0,cz⟩,k⟩
  simp only [L2.tSeq]
  walk_at "rd"
  exact ite2 (fun c=>fin _ (.inr ⟨rfl,c⟩)) fun c=>fin _ (.inl ⟨rfl,c⟩)
abbrev Rs (c:Addr) (H:Hp) (E:XK):Prop:=∀ e,H e=none->E (.ref e) none (upd H e (excO e c none false))
theorem rs_of {c:Addr} {H:Hp} {E:XK} (kx:Rs c H E) (xc:XC K c):∀ e,H e=none->∃ x x1,upd H e (excO e c none true) e=some (excO e x x1 true)/\XC K x/\E (.ref e) x1 (upd (upd H e (excO e c none true)) e (excO e x x1 false)):=fun e he=>⟨c,none,zab,xc,by rw [zfd]; exact kx e he⟩
def spChk (cS:Addr):Sp:=fun vs H Q E=>∃ s,vs = [.int s]/\(1<=s/\s<=1000000->Q .non H)/\(¬ (1<=s/\s<=1000000)->Rs cS H E)
theorem zho (T:Txt K mg c_NoName c_Taken c_NoClass c_NoPlace c_NoShare c_NoLength c_Members c_Chooser c_Starts c_Rounds c_Node c_Tree):Def P w K mg base (CXX P w) 1 "check_share" ["share"] (spChk c_NoShare):=by
 refine T.src_check_share.okX (k:=0) zju (fun vs H Q E h=>?_) (fun f cdv A outer s H vs Q E hr h=>?_)
 ·obtain ⟨s,rfl,_⟩:=h
  rfl
 ·obtain ⟨s,rfl,k,kx⟩:=h
  refine ⟨_,(zaf (ps_if (zii (zku op_le op_le zak (pv 0) (zie rfl T.mg_GREATEST_SHARE))) (zaf (zcn K rfl rfl zeq (zer T.ex_NoShare T.kp_NoShare rfl T.mg_NoShare (zaa zbd zag)))) zaq)),?_⟩
  show tIfS _ _ _ _ [some (.int s)] H
  walk_at "rd"
  refine ite2 (fun c1=>ite2 (fun c2=>k ⟨c1,c2⟩) fun c2=>?_) fun c1=>?_
  ·exact rs_of (kx fun z=>c2 z.2) T.xc_NoShare
  ·exact rs_of (kx fun z=>c1 z.1) T.xc_NoShare
def spMI (C:Addr):Sp:=fun vs H Q _=>∃ x dx,vs = [.ref x]/\H x=some (.ins C dx [])/\∀ psh H',But x H H'->H psh=none->Mb C H' x psh []->Q .non H'
theorem znc (T:Txt K mg c_NoName c_Taken c_NoClass c_NoPlace c_NoShare c_NoLength c_Members c_Chooser c_Starts c_Rounds c_Node c_Tree):MkD P w K mg base (CXX P w) 1 c_Members ["self"] [[]] (spMI c_Members):=by
 refine T.in_Members.okN (k:=0) zjh (fun vs H Q E h=>?_) (fun f cdv A outer s H vs Q E hr h=>?_)
 ·obtain ⟨x,dx,rfl,_⟩:=h
  rfl
 ·obtain ⟨x,dx,rfl,hx,k⟩:=h
  refine ⟨_,(zaf (zcr (pv 0) zfz rfl)),?_⟩
  show (_:TS) _ [some (.ref x)] H
  walk_at "rd"
  intro psh hpsh
  have nx:psh≠x:=fun z=>by rw [z,hx] at hpsh; cases hpsh
  have sn:=zai (o:=.dK []) hpsh
  refine zcs (sn _ _ hx) T.cl_Members T.na_Members_shares (by simp) ?_
  refine k psh _ (fun b o n e=>?_) hpsh ⟨⟨dx,putF "shares" (.ref psh) [],zab,?_,fun m hm=>?_,?_⟩,?_⟩
  ·rw [zah n]; exact sn _ _ e
  ·rw [zef,if_pos rfl]
  ·rw [zef,if_neg hm]; rfl
  ·have:=zan (fs:=[]) (f := "shares") (v:=.ref psh)
   simp only [List.length_nil] at this
   omega
  ·rw [zah nx]; exact zab
def spCk (cC C:Addr):Sp:=fun vs H Q E=>∃ p psh nm x,vs = [.ref p,.str x]/\Mb C H p psh nm/\(shOf nm x≠none->Q .non H)/\(shOf nm x=none->Rs cC H E)
theorem zgj (T:Txt K mg c_NoName c_Taken c_NoClass c_NoPlace c_NoShare c_NoLength c_Members c_Chooser c_Starts c_Rounds c_Node c_Tree):MethD P w K mg base (CXX P w) 1 c_Members "check_name" ["self", "name"] [[]] (spCk c_NoClass c_Members):=by
 refine T.me_Members_check_name.okX (k:=0) zfs (fun vs H Q E h=>?_) (fun f cdv A outer s H vs Q E hr h=>?_)
 ·obtain ⟨p,psh,nm,x,rfl,_⟩:=h
  rfl
 ·obtain ⟨p,psh,nm,x,rfl,M,k,kx⟩:=h
  refine ⟨_,(zaf (ps_if (zgk (zeo (hu_of hr) (pv 1) (zas (pv 0) rfl))) (zaf (zcn K rfl rfl zeq (zer T.ex_NoClass T.kp_NoClass rfl T.mg_NoClass (zaa zbd zag)))) zaq)),?_⟩
  show tIfS _ _ _ _ [some (.ref p),some (.str x)] H
  obtain ⟨dx,fs,hp,hf,hno,hlen⟩:=M.ex
  walk_at "rd"
  refine zap hp T.cl_Members T.na_Members_shares hf ?_
  walk_at "rd"
  refine ⟨_,DGet.k (k:=Sum.inr x) M.hs,?_⟩
  rw [ziz]
  cases e:shOf nm x with
  | none=>exact rs_of (kx e) T.xc_NoClass
  | some v=>exact k (by rw [e]; simp)
def zyc (cT cS C:Addr):Sp:=fun vs H Q E=>∃ p psh nm x s,vs = [.ref p,.str x,.int s]/\Mb C H p psh nm/\nm.length<900/\(shOf nm x≠none->Rs cT H E)/\(shOf nm x=none->¬ (1<=s/\s<=1000000)->Rs cS H E)/\(shOf nm x=none->1<=s/\s<=1000000->Q .non (upd H psh (.dK (kvsOf (nm++[(x,s)])))))
theorem zhp (T:Txt K mg c_NoName c_Taken c_NoClass c_NoPlace c_NoShare c_NoLength c_Members c_Chooser c_Starts c_Rounds c_Node c_Tree):MethD P w K mg base (CXX P w) 2 c_Members "put" ["self", "name", "share"] [[]] (zyc c_Taken c_NoShare c_Members):=by
 have D_check_share:=zho (P:=P) (w:=w) (base:=base) T
 refine T.me_Members_put.okX (k:=1) zjv (fun vs H Q E h=>?_) (fun f cdv A outer s H vs Q E hr h=>?_)
 ·obtain ⟨p,psh,nm,x,s,rfl,_⟩:=h
  rfl
 ·obtain ⟨p,psh,nm,x,s,rfl,M,hn,kt,ks,k⟩:=h
  refine ⟨_,(zad (ps_if (zgk (zuv (hu_of hr) (pv 1) (zas (pv 0) rfl))) (zaf (zcn K rfl rfl zeq (zer T.ex_Taken T.kp_Taken rfl T.mg_Taken (zaa zbd zag)))) zaq) (zad (zav (zbb D_check_share (hr.mono (by decide)) rfl passF (zaa (pv 2) zag))) (zaf (zhv (hu_of hr) (zas (pv 0) rfl) (pv 1) (pv 2) rfl)))),?_⟩
  show tSeq _ _ _ [some (.ref p),some (.str x),some (.int s)] H
  obtain ⟨dx,fs,hp,hf,hno,hlen⟩:=M.ex
  refine zae fun R hR=>?_
  walk_at "rd"
  refine zap hp T.cl_Members T.na_Members_shares hf ?_
  walk_at "rd"
  refine ⟨_,DGet.k (k:=Sum.inr x) M.hs,?_⟩
  rw [ziz]
  cases hx:shOf nm x with
  | some v=>exact rs_of (kt (by rw [hx]; simp)) T.xc_Taken
  | none =>
   refine hR _ _ ?_
   refine zae fun R hR=>?_
   walk_at "rd"
   refine ⟨s,rfl,fun c=>hR _ _ ?_,fun c=>ks hx c⟩
   walk_at "rd"
   refine zap hp T.cl_Members T.na_Members_shares hf ?_
   walk_at "rd"
   refine ⟨_,DPut.k (k:=Sum.inr x) M.hs (line_lt (by rw [zms]; omega)),?_⟩
   rw [zpi hx]
   exact k hx c
def zwc (cC C:Addr):Sp:=fun vs H Q E=>∃ p psh nm x,vs = [.ref p,.str x]/\Mb C H p psh nm/\(shOf nm x=none->Rs cC H E)/\(shOf nm x≠none->Q .non (upd H psh (.dK (kvsOf (dropN nm x)))))
theorem zgn (T:Txt K mg c_NoName c_Taken c_NoClass c_NoPlace c_NoShare c_NoLength c_Members c_Chooser c_Starts c_Rounds c_Node c_Tree):MethD P w K mg base (CXX P w) 2 c_Members "take" ["self", "name"] [[]] (zwc c_NoClass c_Members):=by
 have M_Members_check_name:=zgj (P:=P) (w:=w) (base:=base) T
 refine T.me_Members_take.okX (k:=1) zji (fun vs H Q E h=>?_) (fun f cdv A outer s H vs Q E hr h=>?_)
 ·obtain ⟨p,psh,nm,x,rfl,_⟩:=h
  rfl
 ·obtain ⟨p,psh,nm,x,rfl,M,kx,k⟩:=h
  refine ⟨_,(zad (zav (zaw (dvs:=[]) M_Members_check_name (by simp) T.cl_Members (hr.mono (by decide)) passF (pv 0) (zaa (pv 1) zag))) (zaf (zav (zga (zas (pv 0) rfl) (pv 1) ⟨rfl,rfl,rfl,rfl⟩)))),?_⟩
  show tSeq _ _ _ [some (.ref p),some (.str x)] H
  obtain ⟨dx,fs,hp,hf,hno,hlen⟩:=M.ex
  refine zae fun R hR=>?_
  walk_at "rd"
  refine zbc hp (hno _ (by decide +kernel)) ⟨p,psh,nm,x,rfl,M,fun hx=>hR _ _ ?_,kx⟩
  walk_at "rdc"
  refine zap hp T.cl_Members T.na_Members_shares hf ?_
  walk_at "rdc"
  cases e:shOf nm x with
  | none=>exact absurd e hx
  | some v =>
   exact ⟨.inl ⟨_,.inl M.hs⟩,_,M.hs,Sum.inr x,rfl,⟨.int v,by rw [ziz,e]; rfl⟩,by rw [zpj]; exact k hx⟩
def nmV (nm:Nm):List V:=nm.map fun x=>.str x.1
def zty (C:Addr):Sp:=fun vs H Q _=>∃ p psh nm,vs = [.ref p]/\Mb C H p psh nm/\∀ l,H l=none->Q (.ref l) (upd H l (.lst (nmV nm)))
theorem zft (T:Txt K mg c_NoName c_Taken c_NoClass c_NoPlace c_NoShare c_NoLength c_Members c_Chooser c_Starts c_Rounds c_Node c_Tree):MethD P w K mg base (CXX P w) 1 c_Members "names" ["self"] [[]] (zty c_Members):=by
 refine T.me_Members_names.okN (k:=0) zid (fun vs H Q E h=>?_) (fun f cdv A outer s H vs Q E hr h=>?_)
 ·obtain ⟨p,psh,nm,rfl,_⟩:=h
  rfl
 ·obtain ⟨p,psh,nm,rfl,M,k⟩:=h
  refine ⟨_,(zaf (zar (zhh (zgc rfl) rfl T.no_list boot_list (zaa (zas (pv 0) rfl) zag)))),?_⟩
  show tRet _ _ [some (.ref p)] H
  obtain ⟨dx,fs,hp,hf,hno,hlen⟩:=M.ex
  walk_at "rd"
  refine zap hp T.cl_Members T.na_Members_shares hf ?_
  refine ⟨psh,_,rfl,M.hs,fun l hl=>?_⟩
  have e:(kvsOf nm).map (fun kv=>kV kv.1)=nmV nm:=by unfold L2.kvsOf nmV; rw [List.map_map]; rfl
  rw [e]
  exact k l hl
def spUp (C Cm:Addr):Sp:=fun vs H Q _=>∃ x dx most,vs = [.ref x,.int most]/\H x=some (.ins C dx [])/\∀ pm psh H',But x H H'->H pm=none->H psh=none->pm≠x->H' x=some (.ins C dx (putF "chosen" .non (putF "members" (.ref pm) (putF "most" (.int most) []))))->Mb Cm H' pm psh []->Q .non H'
theorem zhb (T:Txt K mg c_NoName c_Taken c_NoClass c_NoPlace c_NoShare c_NoLength c_Members c_Chooser c_Starts c_Rounds c_Node c_Tree):UpD P w K mg base (CXX P w) 3 c_Chooser "__init__" ["self", "most"] (spUp c_Starts c_Members):=by
 have K_Members:=znc (P:=P) (w:=w) (base:=base) T
 refine T.up_Starts_up_Chooser.okN (k:=2) zge (fun vs H Q E h=>?_) (fun f cdv A outer s H vs Q E hr h=>?_)
 ·obtain ⟨x,dx,most,rfl,_⟩:=h
  rfl
 ·obtain ⟨x,dx,most,rfl,hx,k⟩:=h
  refine ⟨_,(zad (zcr (pv 0) (pv 1) rfl) (zad (zcr (pv 0) (zml (dvs:=[]) K_Members (by simp) (hr.mono (by decide)) passN rfl T.mg_Members) rfl) (zaf (zcr (pv 0) zdd rfl)))),?_⟩
  show tSeq _ _ _ [some (.ref x),some (.int most)] H
  have l1:=zan (fs:=[]) (f := "most") (v:=.int most)
  simp only [List.length_nil] at l1
  refine zae fun R hR=>?_
  walk_at "rd"
  refine zcs hx T.cl_Starts T.na_Starts_most (by simp) (hR _ _ ?_)
  refine zae fun R hR=>?_
  walk_at "rd"
  intro pm dm hpm hdm _
  have nx:pm≠x:=fun z=>by rw [z,zab] at hpm; cases hpm
  have npm:H pm=none:=by rw [zah nx] at hpm; exact hpm
  refine ⟨pm,dm,rfl,zab,fun psh H1 bt hpsh M=>⟨rfl,?_⟩⟩
  have s1:=bt.same (zdr hpm hdm) hpm
  have hx1:=s1 _ _ zab
  have l2:=zan (fs:=putF "most" (.int most) []) (f := "members") (v:=.ref pm)
  have fpsh:upd H x (.ins c_Starts dx (putF "most" (.int most) [])) psh=none:=(zdr hpm hdm).free hpsh
  have npx:psh≠x:=fun z=>by rw [z,zab] at fpsh; cases fpsh
  have npsh:H psh=none:=by rw [zah npx] at fpsh; exact fpsh
  refine zcs hx1 T.cl_Starts T.na_Starts_members (by omega) (hR _ _ ?_)
  walk_at "rd"
  refine zcs zab T.cl_Starts T.na_Starts_chosen (by omega) ?_
  rw [zfd]
  refine k pm psh _ (fun b o n e=>?_) npm npsh nx zab ?_
  ·rw [zah n]
   exact s1 _ _ (by rw [zah n]; exact e)
  ·obtain ⟨d2,f2,g1,g2⟩:=M.ex
   exact ⟨⟨d2,f2,by rw [zah nx]; exact g1,g2⟩,by rw [zah npx]; exact M.hs⟩
def spSI (C Cm:Addr):Sp:=fun vs H Q _=>∃ x dx most,vs = [.ref x,.int most]/\H x=some (.ins C dx [])/\∀ (a:At5) H',a.p=x->But x H H'->H a.pm=none->H a.ps=none->H a.pt=none->H a.pg=none->Sx C Cm H' a most [] (fun _=>none) (fun _=>none) 0 .non 0->Q .non H'
theorem ztz (T:Txt K mg c_NoName c_Taken c_NoClass c_NoPlace c_NoShare c_NoLength c_Members c_Chooser c_Starts c_Rounds c_Node c_Tree):MkD P w K mg base (CXX P w) 4 c_Starts ["self", "most"] [[]] (spSI c_Starts c_Members):=by
 have U_Starts_up_Chooser:=zhb (P:=P) (w:=w) (base:=base) T
 have D_ratio:=zss (P:=P) (w:=w) (base:=base) T
 refine T.in_Starts.okN (k:=3) zjw (fun vs H Q E h=>?_) (fun f cdv A outer s H vs Q E hr h=>?_)
 ·obtain ⟨x,dx,most,rfl,_⟩:=h
  rfl
 ·obtain ⟨x,dx,most,rfl,hx,k⟩:=h
  refine ⟨_,(zad (zav (zsh U_Starts_up_Chooser (hr.mono (by decide)) passN rfl T.mg_Chooser (zaa (pv 0) (zaa (pv 1) zag)))) (zad (zcr (pv 0) (zbb D_ratio (hr.mono (by decide)) rfl passN (zaa zak (zaa zak zag))) rfl) (zad (zcr (pv 0) zfz rfl) (zaf (zcr (pv 0) zfz rfl))))),?_⟩
  show tSeq _ _ _ [some (.ref x),some (.int most)] H
  refine zae fun R hR=>?_
  walk_at "rdc"
  refine ⟨x,dx,most,rfl,hx,fun pm psh H1 bt npm npsh nx hx1 M=>hR _ _ ?_⟩
  have l1:=zan (fs:=[]) (f := "most") (v:=.int most)
  have l2:=zan (fs:=putF "most" (.int most) []) (f := "members") (v:=.ref pm)
  have l3:=zan (fs:=putF "members" (.ref pm) (putF "most" (.int most) [])) (f := "chosen") (v:=.non)
  simp only [List.length_nil] at l1
  refine zae fun R hR=>?_
  walk_at "rd"
  refine ⟨0,1,1,rfl,by decide,Sw.Sz.one _,fun _ pr hpr=>?_,fun z=>absurd z (by decide)⟩
  have e0:((0:Int):Rat) / ((1:Int):Rat) = 0:=by
   have z0:((0:Int):Rat) = 0:=rfl
   rw [z0]; grind
  rw [e0]
  have s1:=zai (o:=.tup (fq 0)) hpr
  have hprt:upd H1 pr (.tup (fq 0)) pr=some (.tup (fq 0)):=zab
  have hx1:=s1 _ _ hx1
  have M:=M.same s1
  have bt:=bt.trans s1.but
  generalize upd H1 pr (.tup (fq 0))=H2 at s1 hprt hx1 M bt ⊢
  clear s1 hpr
  walk_at "rd"
  refine zcs hx1 T.cl_Starts T.na_Starts_reached (by omega) (hR _ _ ?_)
  generalize hfs:putF "reached" (.ref pr) (putF "chosen" .non (putF "members" (.ref pm) (putF "most" (.int most) [])))=fs1
  have l4:fs1.length<=4:=by
   have:=zan (fs:=putF "chosen" .non (putF "members" (.ref pm) (putF "most" (.int most) []))) (f := "reached") (v:=.ref pr)
   rw [hfs] at this
   omega
  have hx2:upd H2 x (.ins c_Starts dx fs1) x=some (.ins c_Starts dx fs1):=zab
  have bt:But x H (upd H2 x (.ins c_Starts dx fs1)):=bt.trans zhu
  have npx:psh≠x:=fun z=>by rw [z,hx] at npsh; cases npsh
  have nrx:pr≠x:=ne_of hprt hx1 (by intro z; cases z)
  have hprt:upd H2 x (.ins c_Starts dx fs1) pr=some (.tup (fq 0)):=by rw [zah nrx]; exact hprt
  have M:Mb c_Members (upd H2 x (.ins c_Starts dx fs1)) pm psh []:=by
   obtain ⟨d2,f2,g1,g2⟩:=M.ex
   exact ⟨⟨d2,f2,by rw [zah nx]; exact g1,g2⟩,by rw [zah npx]; exact M.hs⟩
  generalize upd H2 x (.ins c_Starts dx fs1)=H3 at hx2 bt hprt M ⊢
  refine zae fun R hR=>?_
  walk_at "rd"
  intro pt hpt
  have ntx:pt≠x:=fun z=>by rw [z,hx2] at hpt; cases hpt
  have s3:=zai (o:=.dK []) hpt
  have hptd:upd H3 pt (.dK []) pt=some (.dK []):=zab
  have nts:=zao M.hs hpt
  refine zcs (s3 _ _ hx2) T.cl_Starts T.na_Starts_tags (by omega) (hR _ _ ?_)
  have free:∀ {H':Hp} {b:Addr},But x H H'->b≠x->H' b=none->H b=none:=fun {H' b} bt n e=>by
   cases q:H b with
   | none=>rfl
   | some o =>
    have:=bt _ _ n q
    rw [e] at this
    cases this
  have npt:=free bt ntx hpt
  have l5:=zan (fs:=fs1) (f := "tags") (v:=.ref pt)
  have keepx:∀ {H':Hp} {fs:List (Str×V)} {b:Addr} {o:HO},b≠x->H' b=some o->upd H' x (.ins c_Starts dx fs) b=some o:=fun n e=>by rw [zah n]; exact e
  have bt:But x H (upd (upd H3 pt (.dK [])) x (.ins c_Starts dx (putF "tags" (.ref pt) fs1))):=(bt.trans s3.but).trans zhu
  have hprt:=keepx (fs:=putF "tags" (.ref pt) fs1) nrx (s3 _ _ hprt)
  have hptd:=keepx (fs:=putF "tags" (.ref pt) fs1) ntx hptd
  have M:Mb c_Members (upd (upd H3 pt (.dK [])) x (.ins c_Starts dx (putF "tags" (.ref pt) fs1))) pm psh []:=by
   obtain ⟨d2,f2,g1,g2⟩:=(M.same s3).ex
   exact ⟨⟨d2,f2,keepx nx g1,g2⟩,keepx npx (s3 _ _ M.hs)⟩
  have hx4:upd (upd H3 pt (.dK [])) x (.ins c_Starts dx (putF "tags" (.ref pt) fs1)) x=some (.ins c_Starts dx (putF "tags" (.ref pt) fs1)):=zab
  generalize upd (upd H3 pt (.dK [])) x (.ins c_Starts dx (putF "tags" (.ref pt) fs1))=H4 at bt hprt hptd M hx4 ⊢
  clear s3 hpt hx2
  walk_at "rd"
  intro pg hpg
  have ngx:pg≠x:=fun z=>by rw [z,hx4] at hpg; cases hpg
  have s5:=zai (o:=.dK []) hpg
  have ngt:=zao hptd hpg
  have ngs:=zao M.hs hpg
  refine zcs (s5 _ _ hx4) T.cl_Starts T.na_Starts_greatest_steps (by omega) ?_
  have npg:=free bt ngx hpg
  refine k ⟨x,pm,psh,pt,pg⟩ _ rfl ((bt.trans s5.but).trans zhu) npm npsh npt npg ⟨⟨dx,_,pr,zab,?_,keepx nrx (s5 _ _ hprt)⟩,?_,⟨[],keepx ntx (s5 _ _ hptd),fun y=>.inl ⟨rfl,rfl⟩,Nat.le_refl _⟩,⟨[],keepx ngx zab,fun y=>.inl ⟨rfl,rfl⟩,Nat.le_refl _⟩,Nat.le_refl _,ngt,nts.symm,ngs.symm,nx.symm⟩
  ·rw [<- hfs]
   exact FS.mk0 _ _ _ _ _ _
  ·obtain ⟨d2,f2,g1,g2⟩:=(M.same s5).ex
   exact ⟨⟨d2,f2,keepx nx g1,g2⟩,keepx npx (s5 _ _ M.hs)⟩
def zwd (C Cm:Addr):Sp:=fun vs H Q _=>∃ a most nm tg gs ck ch N,vs = [.ref a.p]/\Sx C Cm H a most nm tg gs ck ch N/\∀ l,H l=none->Q (.ref l) (upd H l (.lst (nmV nm)))
theorem zgo (T:Txt K mg c_NoName c_Taken c_NoClass c_NoPlace c_NoShare c_NoLength c_Members c_Chooser c_Starts c_Rounds c_Node c_Tree):MethD P w K mg base (CXX P w) 2 c_Starts "names" ["self"] [[]] (zwd c_Starts c_Members):=by
 have M_Members_names:=zft (P:=P) (w:=w) (base:=base) T
 refine T.me_Starts_names.okN (k:=1) zjl (fun vs H Q E h=>?_) (fun f cdv A outer s H vs Q E hr h=>?_)
 ·obtain ⟨a,most,nm,tg,gs,ck,ch,N,rfl,_⟩:=h
  rfl
 ·obtain ⟨a,most,nm,tg,gs,ck,ch,N,rfl,S,k⟩:=h
  refine ⟨_,(zaf (zar (zeb (dvs:=[]) M_Members_names (by simp) T.cl_Members (hr.mono (by decide)) passN (zas (pv 0) rfl)))),?_⟩
  show tRet _ _ [some (.ref a.p)] H
  obtain ⟨dx,fs,pr,hp,ft,hr'⟩:=S.ex
  obtain ⟨dm,fm,hpm,hfm,hno,hlen⟩:=S.mb.ex
  walk_at "rd"
  refine zap hp T.cl_Starts T.na_Starts_members ft.me ?_
  exact zbc hpm (hno _ (by decide +kernel)) ⟨a.pm,a.ps,nm,rfl,S.mb,k⟩
def zwe (C Cm:Addr):Sp:=fun vs H Q _=>∃ a most nm tg gs ck ch N x,vs = [.ref a.p,.str x]/\Sx C Cm H a most nm tg gs ck ch N/\N<900/\∀ H',Own a H H'->Sx C Cm H' a most nm (setS tg x 0) (setS gs x 0) ck ch (N+2)->Q .non H'
theorem zkb (T:Txt K mg c_NoName c_Taken c_NoClass c_NoPlace c_NoShare c_NoLength c_Members c_Chooser c_Starts c_Rounds c_Node c_Tree):MethD P w K mg base (CXX P w) 3 c_Starts "enter" ["self", "name"] [[]] (zwe c_Starts c_Members):=by
 have D_ratio:=zss (P:=P) (w:=w) (base:=base) T
 refine T.me_Starts_enter.okN (k:=2) zjj (fun vs H Q E h=>?_) (fun f cdv A outer s H vs Q E hr h=>?_)
 ·obtain ⟨a,most,nm,tg,gs,ck,ch,N,x,rfl,_⟩:=h
  rfl
 ·obtain ⟨a,most,nm,tg,gs,ck,ch,N,x,rfl,S,hN,k⟩:=h
  refine ⟨_,(zad (zhv (hu_of hr) (zas (pv 0) rfl) (pv 1) (zbb D_ratio (hr.mono (by decide)) rfl passN (zaa zak (zaa zak zag))) rfl) (zaf (zhv (hu_of hr) (zas (pv 0) rfl) (pv 1) (zbb D_ratio (hr.mono (by decide)) rfl passN (zaa zak (zaa zak zag))) rfl))),?_⟩
  show tSeq _ _ _ [some (.ref a.p),some (.str x)] H
  refine zae fun R hR=>?_
  walk_at "rd"
  refine ⟨0,1,1,rfl,by decide,Sw.Sz.one _,fun _ q hq=>?_,fun z=>absurd z (by decide)⟩
  rw [rat01]
  have sn:=zai (o:=.tup (fq 0)) hq
  have hqt:upd H q (.tup (fq 0)) q=some (.tup (fq 0)):=zab
  have S:=S.same sn
  generalize upd H q (.tup (fq 0))=H1 at sn hqt S ⊢
  obtain ⟨dx,fs,pr,hp,ft,hr'⟩:=S.ex
  obtain ⟨kvs,hpt,hv,hkl⟩:=S.dt.ex
  walk_at "rd"
  refine zap hp T.cl_Starts T.na_Starts_tags ft.ta ?_
  walk_at "rd"
  refine ⟨_,DPut.k (k:=Sum.inr x) hpt (line_lt (by omega)),hR _ _ ?_⟩
  have lput:=zey kvs (Sum.inr x:Key) (.ref q)
  have S:=S.set_t (Nat.le_succ N) (RatD.put (x:=x) (r:=0) hpt hv (by omega) hqt)
  have ow:Own a H _:=sn.own.trans (own_t (a:=a) (H:=H1) (o:=.dK (putK kvs (Sum.inr x) (.ref q))))
  generalize upd H1 a.pt (.dK (putK kvs (Sum.inr x) (.ref q)))=H2 at S ow ⊢
  clear sn hqt hp ft hr' hpt hv hkl lput hq
  walk_at "rd"
  refine ⟨0,1,1,rfl,by decide,Sw.Sz.one _,fun _ q hq=>?_,fun z=>absurd z (by decide)⟩
  rw [rat01]
  have sn:=zai (o:=.tup (fq 0)) hq
  have hqt:upd H2 q (.tup (fq 0)) q=some (.tup (fq 0)):=zab
  have S:=S.same sn
  generalize upd H2 q (.tup (fq 0))=H3 at sn hqt S ⊢
  obtain ⟨dx,fs,pr,hp,ft,hr'⟩:=S.ex
  obtain ⟨kvs,hpg,hv,hkl⟩:=S.dg.ex
  walk_at "rd"
  refine zap hp T.cl_Starts T.na_Starts_greatest_steps ft.gr ?_
  walk_at "rd"
  refine ⟨_,DPut.k (k:=Sum.inr x) hpg (line_lt (by omega)),?_⟩
  have lput:=zey kvs (Sum.inr x:Key) (.ref q)
  exact k _ ((ow.trans sn.own).trans own_g) (S.set_g (Nat.le_succ (N+1)) (RatD.put (x:=x) (r:=0) hpg hv (by omega) hqt))
def zwf (C Cm:Addr):Sp:=fun vs H Q _=>∃ a most nm tg gs ck ch N x t g,vs = [.ref a.p,.str x]/\Sx C Cm H a most nm tg gs ck ch N/\tg x=some t/\gs x=some g/\∀ H',Own a H H'->Sx C Cm H' a most nm (delS tg x) (delS gs x) ck ch N->Q .non H'
theorem zkc (T:Txt K mg c_NoName c_Taken c_NoClass c_NoPlace c_NoShare c_NoLength c_Members c_Chooser c_Starts c_Rounds c_Node c_Tree):MethD P w K mg base (CXX P w) 1 c_Starts "leave" ["self", "name"] [[]] (zwf c_Starts c_Members):=by
 refine T.me_Starts_leave.okN (k:=0) zjk (fun vs H Q E h=>?_) (fun f cdv A outer s H vs Q E hr h=>?_)
 ·obtain ⟨a,most,nm,tg,gs,ck,ch,N,x,t,g,rfl,_⟩:=h
  rfl
 ·obtain ⟨a,most,nm,tg,gs,ck,ch,N,x,t,g,rfl,S,ht,hg,k⟩:=h
  refine ⟨_,(zad (zav (zga (zas (pv 0) rfl) (pv 1) ⟨rfl,rfl,rfl,rfl⟩)) (zaf (zav (zga (zas (pv 0) rfl) (pv 1) ⟨rfl,rfl,rfl,rfl⟩)))),?_⟩
  show tSeq _ _ _ [some (.ref a.p),some (.str x)] H
  obtain ⟨dx,fs,pr,hp,ft,hr'⟩:=S.ex
  obtain ⟨kvs,hpt,hv,hkl⟩:=S.dt.ex
  refine zae fun R hR=>?_
  walk_at "rdc"
  refine zap hp T.cl_Starts T.na_Starts_tags ft.ta ?_
  walk_at "rdc"
  rcases hv x with ⟨z,_⟩ | ⟨r,q,e1,e2,e3⟩
  ·rw [ht] at z; cases z
  ·refine ⟨.inl ⟨_,.inl hpt⟩,_,hpt,Sum.inr x,rfl,⟨_,e2⟩,hR _ _ ?_⟩
   have S:=S.set_t (Nat.le_refl N) (RatD.del (x:=x) hpt hv (Nat.le_trans (zlc _ _) hkl))
   have ow:Own a H (upd H a.pt (.dK (dropK kvs (Sum.inr x)))):=own_t
   generalize upd H a.pt (.dK (dropK kvs (Sum.inr x)))=H1 at S ow ⊢
   obtain ⟨dx,fs,pr,hp,ft,hr'⟩:=S.ex
   obtain ⟨kvs,hpg,hv,hkl⟩:=S.dg.ex
   walk_at "rdc"
   refine zap hp T.cl_Starts T.na_Starts_greatest_steps ft.gr ?_
   walk_at "rdc"
   rcases hv x with ⟨z,_⟩ | ⟨r,q,e1,e2,e3⟩
   ·rw [hg] at z; cases z
   ·exact ⟨.inl ⟨_,.inl hpg⟩,_,hpg,Sum.inr x,rfl,⟨_,e2⟩,k _ (ow.trans own_g) (S.set_g (Nat.le_refl N) (RatD.del (x:=x) hpg hv (Nat.le_trans (zlc _ _) hkl)))⟩
def spPut (cT cS C Cm:Addr):Sp:=fun vs H Q E=>∃ a most nm tg gs ck ch N x s,vs = [.ref a.p,.str x,.int s]/\Sx C Cm H a most nm tg gs ck ch N/\N<890/\(shOf nm x≠none->Rs cT H E)/\(shOf nm x=none->¬ (1<=s/\s<=1000000)->Rs cS H E)/\(shOf nm x=none->1<=s/\s<=1000000->∀ H',Own a H H'->Sx C Cm H' a most (nm++[(x,s)]) (setS tg x 0) (setS gs x 0) ck ch (N+3)->Q .non H')
theorem znd (T:Txt K mg c_NoName c_Taken c_NoClass c_NoPlace c_NoShare c_NoLength c_Members c_Chooser c_Starts c_Rounds c_Node c_Tree):MethD P w K mg base (CXX P w) 4 c_Starts "put" ["self", "name", "share"] [[]] (spPut c_Taken c_NoShare c_Starts c_Members):=by
 have M_Members_put:=zhp (P:=P) (w:=w) (base:=base) T
 have M_Starts_enter:=zkb (P:=P) (w:=w) (base:=base) T
 refine T.me_Starts_put.okX (k:=3) zlj (fun vs H Q E h=>?_) (fun f cdv A outer s H vs Q E hr h=>?_)
 ·obtain ⟨a,most,nm,tg,gs,ck,ch,N,x,s,rfl,_⟩:=h
  rfl
 ·obtain ⟨a,most,nm,tg,gs,ck,ch,N,x,s,rfl,S,hN,kt,ks,k⟩:=h
  refine ⟨_,(zad (zav (zaw (dvs:=[]) M_Members_put (by simp) T.cl_Members (hr.mono (by decide)) passF (zas (pv 0) rfl) (zaa (pv 1) (zaa (pv 2) zag)))) (zaf (zav (zaw (dvs:=[]) M_Starts_enter (by simp) T.cl_Starts (hr.mono (by decide)) passF (pv 0) (zaa (pv 1) zag))))),?_⟩
  show tSeq _ _ _ [some (.ref a.p),some (.str x),some (.int s)] H
  obtain ⟨dx,fs,pr,hp,ft,hr'⟩:=S.ex
  obtain ⟨dm,fm,hpm,hfm,hno,hlen⟩:=S.mb.ex
  have nl:=S.nl
  refine zae fun R hR=>?_
  walk_at "rd"
  refine zap hp T.cl_Starts T.na_Starts_members ft.me ?_
  refine zbc hpm (hno _ (by decide +kernel)) ⟨a.pm,a.ps,nm,x,s,rfl,S.mb,by omega,kt,ks,fun hx hs=>hR _ _ ?_⟩
  have S:=S.set_s (nm':=nm++[(x,s)]) (Nat.le_succ N) (by simp; omega)
  have ow:Own a H (upd H a.ps (.dK (kvsOf (nm++[(x,s)])))):=own_s
  generalize upd H a.ps (.dK (kvsOf (nm++[(x,s)])))=H1 at S ow ⊢
  obtain ⟨dx,fs,pr,hp,ft,hr'⟩:=S.ex
  walk_at "rd"
  exact zbc hp (ft.no _ (by decide +kernel) (by decide +kernel) (by decide +kernel) (by decide +kernel) (by decide +kernel) (by decide +kernel)) ⟨a,most,_,tg,gs,ck,ch,N+1,x,rfl,S,by omega,fun H' o' S'=>k hx hs H' (ow.trans o') S'⟩
def zyd (cC C Cm:Addr):Sp:=fun vs H Q E=>∃ a most nm tg gs ck ch N x,vs = [.ref a.p,.str x]/\Sx C Cm H a most nm tg gs ck ch N/\(shOf nm x=none->Rs cC H E)/\(shOf nm x≠none->∃ t g,tg x=some t/\gs x=some g/\∀ H',Own a H H'->Sx C Cm H' a most (dropN nm x) (delS tg x) (delS gs x) ck ch N->Q .non H')
theorem zll (T:Txt K mg c_NoName c_Taken c_NoClass c_NoPlace c_NoShare c_NoLength c_Members c_Chooser c_Starts c_Rounds c_Node c_Tree):MethD P w K mg base (CXX P w) 3 c_Starts "take" ["self", "name"] [[]] (zyd c_NoClass c_Starts c_Members):=by
 have M_Members_take:=zgn (P:=P) (w:=w) (base:=base) T
 have M_Starts_leave:=zkc (P:=P) (w:=w) (base:=base) T
 refine T.me_Starts_take.okX (k:=2) zjx (fun vs H Q E h=>?_) (fun f cdv A outer s H vs Q E hr h=>?_)
 ·obtain ⟨a,most,nm,tg,gs,ck,ch,N,x,rfl,_⟩:=h
  rfl
 ·obtain ⟨a,most,nm,tg,gs,ck,ch,N,x,rfl,S,kx,k⟩:=h
  refine ⟨_,(zad (zav (zaw (dvs:=[]) M_Members_take (by simp) T.cl_Members (hr.mono (by decide)) passF (zas (pv 0) rfl) (zaa (pv 1) zag))) (zaf (zav (zaw (dvs:=[]) M_Starts_leave (by simp) T.cl_Starts (hr.mono (by decide)) passF (pv 0) (zaa (pv 1) zag))))),?_⟩
  show tSeq _ _ _ [some (.ref a.p),some (.str x)] H
  obtain ⟨dx,fs,pr,hp,ft,hr'⟩:=S.ex
  obtain ⟨dm,fm,hpm,hfm,hno,hlen⟩:=S.mb.ex
  have nl:=S.nl
  refine zae fun R hR=>?_
  walk_at "rd"
  refine zap hp T.cl_Starts T.na_Starts_members ft.me ?_
  refine zbc hpm (hno _ (by decide +kernel)) ⟨a.pm,a.ps,nm,x,rfl,S.mb,kx,fun hx=>hR _ _ ?_⟩
  obtain ⟨t,g,ht,hg,k⟩:=k hx
  have S:=S.set_s (nm':=dropN nm x) (Nat.le_refl N) (Nat.le_trans (List.length_filter_le _ _) nl)
  have ow:Own a H (upd H a.ps (.dK (kvsOf (dropN nm x)))):=own_s
  generalize upd H a.ps (.dK (kvsOf (dropN nm x)))=H1 at S ow ⊢
  obtain ⟨dx,fs,pr,hp,ft,hr'⟩:=S.ex
  walk_at "rd"
  exact zbc hp (ft.no _ (by decide +kernel) (by decide +kernel) (by decide +kernel) (by decide +kernel) (by decide +kernel) (by decide +kernel)) ⟨a,most,_,tg,gs,ck,ch,N,x,t,g,rfl,S,ht,hg,fun H' o' S'=>k H' (ow.trans o') S'⟩
def spUpR (C Cm:Addr):Sp:=fun vs H Q _=>∃ x dx most,vs = [.ref x,.int most]/\H x=some (.ins C dx [])/\∀ pm psh H',But x H H'->H pm=none->H psh=none->pm≠x->H' x=some (.ins C dx (putF "chosen" .non (putF "members" (.ref pm) (putF "most" (.int most) []))))->Mb Cm H' pm psh []->Q .non H'
theorem zhc (T:Txt K mg c_NoName c_Taken c_NoClass c_NoPlace c_NoShare c_NoLength c_Members c_Chooser c_Starts c_Rounds c_Node c_Tree):UpD P w K mg base (CXX P w) 3 c_Chooser "__init__" ["self", "most"] (spUpR c_Rounds c_Members):=by
 have K_Members:=znc (P:=P) (w:=w) (base:=base) T
 refine T.up_Rounds_up_Chooser.okN (k:=2) zgf (fun vs H Q E h=>?_) (fun f cdv A outer s H vs Q E hr h=>?_)
 ·obtain ⟨x,dx,most,rfl,_⟩:=h
  rfl
 ·obtain ⟨x,dx,most,rfl,hx,k⟩:=h
  refine ⟨_,(zad (zcr (pv 0) (pv 1) rfl) (zad (zcr (pv 0) (zml (dvs:=[]) K_Members (by simp) (hr.mono (by decide)) passN rfl T.mg_Members) rfl) (zaf (zcr (pv 0) zdd rfl)))),?_⟩
  show tSeq _ _ _ [some (.ref x),some (.int most)] H
  have l1:=zan (fs:=[]) (f := "most") (v:=.int most)
  simp only [List.length_nil] at l1
  refine zae fun R hR=>?_
  walk_at "rd"
  refine zcs hx T.cl_Rounds T.na_Rounds_most (by simp) (hR _ _ ?_)
  refine zae fun R hR=>?_
  walk_at "rd"
  intro pm dm hpm hdm _
  have nx:pm≠x:=fun z=>by rw [z,zab] at hpm; cases hpm
  have npm:H pm=none:=by rw [zah nx] at hpm; exact hpm
  refine ⟨pm,dm,rfl,zab,fun psh H1 bt hpsh M=>⟨rfl,?_⟩⟩
  have s1:=bt.same (zdr hpm hdm) hpm
  have hx1:=s1 _ _ zab
  have l2:=zan (fs:=putF "most" (.int most) []) (f := "members") (v:=.ref pm)
  have fpsh:upd H x (.ins c_Rounds dx (putF "most" (.int most) [])) psh=none:=(zdr hpm hdm).free hpsh
  have npx:psh≠x:=fun z=>by rw [z,zab] at fpsh; cases fpsh
  have npsh:H psh=none:=by rw [zah npx] at fpsh; exact fpsh
  refine zcs hx1 T.cl_Rounds T.na_Rounds_members (by omega) (hR _ _ ?_)
  walk_at "rd"
  refine zcs zab T.cl_Rounds T.na_Rounds_chosen (by omega) ?_
  rw [zfd]
  refine k pm psh _ (fun b o n e=>?_) npm npsh nx zab ?_
  ·rw [zah n]
   exact s1 _ _ (by rw [zah n]; exact e)
  ·obtain ⟨d2,f2,g1,g2⟩:=M.ex
   exact ⟨⟨d2,f2,by rw [zah nx]; exact g1,g2⟩,by rw [zah npx]; exact M.hs⟩
def zwg (C Cm:Addr):Sp:=fun vs H Q _=>∃ x dx most,vs = [.ref x,.int most]/\H x=some (.ins C dx [])/\∀ (a:At5) H',a.p=x->But x H H'->H a.pm=none->H a.ps=none->H a.pt=none->H a.pg=none->Rx C Cm H' a most [] [] [] none .non->Q .non H'
theorem zua (T:Txt K mg c_NoName c_Taken c_NoClass c_NoPlace c_NoShare c_NoLength c_Members c_Chooser c_Starts c_Rounds c_Node c_Tree):MkD P w K mg base (CXX P w) 4 c_Rounds ["self", "most"] [[]] (zwg c_Rounds c_Members):=by
 have U_Rounds_up_Chooser:=zhc (P:=P) (w:=w) (base:=base) T
 refine T.in_Rounds.okN (k:=3) zjy (fun vs H Q E h=>?_) (fun f cdv A outer s H vs Q E hr h=>?_)
 ·obtain ⟨x,dx,most,rfl,_⟩:=h
  rfl
 ·obtain ⟨x,dx,most,rfl,hx,k⟩:=h
  refine ⟨_,(zad (zav (zsh U_Rounds_up_Chooser (hr.mono (by decide)) passN rfl T.mg_Chooser (zaa (pv 0) (zaa (pv 1) zag)))) (zad (zcr (pv 0) (zea zag) rfl) (zad (zcr (pv 0) zfz rfl) (zaf (zcr (pv 0) zdd rfl))))),?_⟩
  show tSeq _ _ _ [some (.ref x),some (.int most)] H
  refine zae fun R hR=>?_
  walk_at "rdc"
  refine ⟨x,dx,most,rfl,hx,fun pm psh H1 bt npm npsh nx hx1 M=>hR _ _ ?_⟩
  have l1:=zan (fs:=[]) (f := "most") (v:=.int most)
  have l2:=zan (fs:=putF "most" (.int most) []) (f := "members") (v:=.ref pm)
  have l3:=zan (fs:=putF "members" (.ref pm) (putF "most" (.int most) [])) (f := "chosen") (v:=.non)
  simp only [List.length_nil] at l1
  have npx:psh≠x:=fun z=>by rw [z,hx] at npsh; cases npsh
  have free:∀ {H':Hp} {b:Addr},But x H H'->b≠x->H' b=none->H b=none:=fun {H' b} bt n e=>by
   cases q:H b with
   | none=>rfl
   | some o =>
    have:=bt _ _ n q
    rw [e] at this
    cases this
  have keepx:∀ {H':Hp} {fs:List (Str×V)} {b:Addr} {o:HO},b≠x->H' b=some o->upd H' x (.ins c_Rounds dx fs) b=some o:=fun n e=>by rw [zah n]; exact e
  generalize hfs0:putF "chosen" .non (putF "members" (.ref pm) (putF "most" (.int most) []))=fs0 at hx1 l3
  refine zae fun R hR=>?_
  walk_at "rd"
  intro pt hpt
  have ntx:pt≠x:=fun z=>by rw [z,hx1] at hpt; cases hpt
  have s3:=zai (o:=.lst []) hpt
  have hptd:upd H1 pt (.lst []) pt=some (.lst []):=zab
  refine zcs (s3 _ _ hx1) T.cl_Rounds T.na_Rounds_queue (by omega) (hR _ _ ?_)
  have npt:=free bt ntx hpt
  have l4:=zan (fs:=fs0) (f := "queue") (v:=.ref pt)
  have bt:But x H (upd (upd H1 pt (.lst [])) x (.ins c_Rounds dx (putF "queue" (.ref pt) fs0))):=(bt.trans s3.but).trans zhu
  have hptd:=keepx (fs:=putF "queue" (.ref pt) fs0) ntx hptd
  have M:Mb c_Members (upd (upd H1 pt (.lst [])) x (.ins c_Rounds dx (putF "queue" (.ref pt) fs0))) pm psh []:=by
   obtain ⟨d2,f2,g1,g2⟩:=(M.same s3).ex
   exact ⟨⟨d2,f2,keepx nx g1,g2⟩,keepx npx (s3 _ _ M.hs)⟩
  have hx4:upd (upd H1 pt (.lst [])) x (.ins c_Rounds dx (putF "queue" (.ref pt) fs0)) x=some (.ins c_Rounds dx (putF "queue" (.ref pt) fs0)):=zab
  generalize upd (upd H1 pt (.lst [])) x (.ins c_Rounds dx (putF "queue" (.ref pt) fs0))=H4 at bt hptd M hx4 ⊢
  clear s3 hpt hx1
  refine zae fun R hR=>?_
  walk_at "rd"
  intro pg hpg
  have ngx:pg≠x:=fun z=>by rw [z,hx4] at hpg; cases hpg
  have s5:=zai (o:=.dK []) hpg
  have ngs:=zao M.hs hpg
  refine zcs (s5 _ _ hx4) T.cl_Rounds T.na_Rounds_rests (by omega) (hR _ _ ?_)
  have npg:=free bt ngx hpg
  have l5:=zan (fs:=putF "queue" (.ref pt) fs0) (f := "rests") (v:=.ref pg)
  walk_at "rd"
  refine zcs zab T.cl_Rounds T.na_Rounds_turn (by omega) ?_
  rw [zfd]
  refine k ⟨x,pm,psh,pt,pg⟩ _ rfl ((bt.trans s5.but).trans zhu) npm npsh npt npg ⟨⟨dx,_,zab,?_⟩,?_,keepx ntx (s5 _ _ hptd),keepx ngx zab,ngs.symm,nx.symm⟩
  ·rw [<- hfs0]
   exact FR.mk0 _ _ _ _ _
  ·obtain ⟨d2,f2,g1,g2⟩:=(M.same s5).ex
   exact ⟨⟨d2,f2,keepx nx g1,g2⟩,keepx npx (s5 _ _ M.hs)⟩
def zub (C Cm:Addr):Sp:=fun vs H Q _=>∃ a most nm q rs tu ch x,vs = [.ref a.p,.str x]/\Rx C Cm H a most nm q rs tu ch/\q.length<900/\rs.length<900/\shOf rs x=none/\∀ H',Own a H H'->Rx C Cm H' a most nm (q++[x]) (rs++[(x,0)]) tu ch->Q .non H'
theorem zkd (T:Txt K mg c_NoName c_Taken c_NoClass c_NoPlace c_NoShare c_NoLength c_Members c_Chooser c_Starts c_Rounds c_Node c_Tree):MethD P w K mg base (CXX P w) 1 c_Rounds "enter" ["self", "name"] [[]] (zub c_Rounds c_Members):=by
 refine T.me_Rounds_enter.okN (k:=0) zjm (fun vs H Q E h=>?_) (fun f cdv A outer s H vs Q E hr h=>?_)
 ·obtain ⟨a,most,nm,q,rs,tu,ch,x,rfl,_⟩:=h
  rfl
 ·obtain ⟨a,most,nm,q,rs,tu,ch,x,rfl,S,lq,lr,hx,k⟩:=h
  refine ⟨_,(zad (zav (pe_bm PySem.F.plainAttrs_list PySem.F.slot_list_append PySem.F.type_list_append zen (zas (pv 0) rfl) (zaa (pv 1) zag))) (zaf (zhv (hu_of hr) (zas (pv 0) rfl) (pv 1) zak rfl))),?_⟩
  show tSeq _ _ _ [some (.ref a.p),some (.str x)] H
  obtain ⟨dx,fs,hp,ft⟩:=S.ex
  refine zae fun R hR=>?_
  walk_at "rd"
  refine zap hp T.cl_Rounds T.na_Rounds_queue ft.qu ?_
  refine ⟨zgl S.hq,zix S.hq (by rw [List.length_map]; omega) (hR _ _ ?_)⟩
  have e:q.map V.str++[V.str x] = (q++[x]).map V.str:=by rw [List.map_append]; rfl
  rw [e]
  have S:=S.set_q (q':=q++[x])
  have ow:Own a H (upd H a.pt (.lst ((q++[x]).map V.str))):=own_t
  generalize upd H a.pt (.lst ((q++[x]).map V.str))=H1 at S ow ⊢
  obtain ⟨dx,fs,hp,ft⟩:=S.ex
  walk_at "rd"
  refine zap hp T.cl_Rounds T.na_Rounds_rests ft.re ?_
  walk_at "rd"
  refine ⟨_,DPut.k (k:=Sum.inr x) S.hr (line_lt (by rw [zms]; omega)),?_⟩
  rw [zpi hx]
  exact k _ (ow.trans own_g) S.set_r
def zuc (C Cm:Addr):Sp:=fun vs H Q _=>∃ a most nm q rs tu ch x,vs = [.ref a.p,.str x]/\Rx C Cm H a most nm q rs tu ch/\shOf rs x≠none/\(tu≠some x->x∈q)/\q.Nodup/\q.length<=100/\(∀ y∈q,PyData.strOk y=true)/\∀ H',Own a H H'->Rx C Cm H' a most nm (if tu=some x then q else q.erase x) (dropN rs x) (if tu=some x then none else tu) ch->Q .non H'
theorem zke (T:Txt K mg c_NoName c_Taken c_NoClass c_NoPlace c_NoShare c_NoLength c_Members c_Chooser c_Starts c_Rounds c_Node c_Tree):MethD P w K mg base (CXX P w) 1 c_Rounds "leave" ["self", "name"] [[]] (zuc c_Rounds c_Members):=by
 refine T.me_Rounds_leave.okN (k:=0) zjn (fun vs H Q E h=>?_) (fun f cdv A outer s H vs Q E hr h=>?_)
 ·obtain ⟨a,most,nm,q,rs,tu,ch,x,rfl,_⟩:=h
  rfl
 ·obtain ⟨a,most,nm,q,rs,tu,ch,x,rfl,S,hx,hq,nd,lq,ok,k⟩:=h
  refine ⟨_,(zad (ps_if (zau op_eq (zas (pv 0) rfl) (pv 1) (zba _)) (zaf (zcr (pv 0) zdd rfl)) (zaf (zav (pe_bm PySem.F.plainAttrs_list PySem.F.slot_list_remove PySem.F.type_list_remove (zsl K rfl hr.units66) (zas (pv 0) rfl) (zaa (pv 1) zag))))) (zaf (zav (zga (zas (pv 0) rfl) (pv 1) ⟨rfl,rfl,rfl,rfl⟩)))),?_⟩
  show tSeq _ _ _ [some (.ref a.p),some (.str x)] H
  obtain ⟨dx,fs,hp,ft⟩:=S.ex
  refine zae fun R hR=>?_
  have post:∀ H1,Own a H H1->Rx c_Rounds c_Members H1 a most nm (if tu=some x then q else q.erase x) rs (if tu=some x then none else tu) ch->R [some (.ref a.p),some (.str x)] H1:=by
   intro H1 ow S
   refine hR _ _ ?_
   obtain ⟨dx,fs,hp,ft⟩:=S.ex
   walk_at "rdc"
   refine zap hp T.cl_Rounds T.na_Rounds_rests ft.re ?_
   walk_at "rdc"
   cases e:shOf rs x with
   | none=>exact absurd e hx
   | some v =>
    refine ⟨.inl ⟨_,.inl S.hr⟩,_,S.hr,Sum.inr x,rfl,⟨.int v,by rw [ziz,e]; rfl⟩,?_⟩
    rw [zpj]
    exact k _ (ow.trans own_g) S.set_r
  clear k hR
  walk_at "rd"
  refine zap hp T.cl_Rounds T.na_Rounds_turn ft.tu ?_
  have gone:tu=some x->R [some (.ref a.p),some (.str x)] (upd H a.p (.ins c_Rounds dx (putF "turn" .non fs))):=fun e=>by
   have S4:=S.set_p hp (ft.put_tu none)
   refine post _ own_p ?_
   rw [if_pos e,if_pos e]
   exact S4
  have stay:¬ tu=some x->R [some (.ref a.p),some (.str x)] (upd H a.pt (.lst ((q.erase x).map V.str))):=fun e=>by
   refine post _ own_t ?_
   rw [if_neg e,if_neg e]
   exact S.set_q
  cases tu with
  | none =>
   unfold optS
   walk_at "rd"
   rw [if_neg (by intro z; cases z)]
   refine zap hp T.cl_Rounds T.na_Rounds_queue ft.qu ?_
   exact ⟨zgl S.hq,zux nd (hq (by simp)) lq ok S.hq (stay (by simp))⟩
  | some t =>
   unfold optS
   walk_at "rd"
   refine ite2 (fun e=>?_) fun e=>?_
   ·subst e
    refine zcs hp T.cl_Rounds T.na_Rounds_turn (by have:=ft.len; omega) ?_
    exact gone rfl
   ·refine zap hp T.cl_Rounds T.na_Rounds_queue ft.qu ?_
    have ne:¬ (some t:Option Str)=some x:=fun z=>e (Option.some.inj z)
    exact ⟨zgl S.hq,zux nd (hq ne) lq ok S.hq (stay ne)⟩
section
variable {most:Int} {nm:Nm} {q:List Str} {rs:Nm} {tu:Option Str}
theorem ri_rs (h:Sw.RI most nm q rs tu) {x:Str}:shOf rs x≠none↔shOf nm x≠none:=by rw [Sw.sh_mem,Sw.sh_mem,h.ks]
theorem zva (h:Sw.RI most nm q rs tu):rs.length=nm.length/\q.length<=nm.length:=by
 have e1:=congrArg List.length h.ks
 have e2:=h.pm.length_eq
 rw [List.length_map,List.length_map] at e1
 rw [List.length_append,List.length_map] at e2
 exact ⟨e1,by omega⟩
theorem ri_nd (h:Sw.RI most nm q rs tu):q.Nodup:=(List.nodup_append.mp (h.pm.nodup_iff.mpr h.nd)).1
theorem ri_q (h:Sw.RI most nm q rs tu) {y:Str} (hy:y∈q):y∈nm.map (·.1):=h.pm.mem_iff.mp (List.mem_append.mpr (.inl hy))
end
def zye (cT cS C Cm:Addr):Sp:=fun vs H Q E=>∃ a most nm q rs tu ch x s,vs = [.ref a.p,.str x,.int s]/\Rx C Cm H a most nm q rs tu ch/\Sw.RI most nm q rs tu/\nm.length<90/\(shOf nm x≠none->Rs cT H E)/\(shOf nm x=none->¬ (1<=s/\s<=1000000)->Rs cS H E)/\(shOf nm x=none->1<=s/\s<=1000000->∀ H',Own a H H'->Rx C Cm H' a most (nm++[(x,s)]) (q++[x]) (rs++[(x,0)]) tu ch->Q .non H')
theorem zne (T:Txt K mg c_NoName c_Taken c_NoClass c_NoPlace c_NoShare c_NoLength c_Members c_Chooser c_Starts c_Rounds c_Node c_Tree):MethD P w K mg base (CXX P w) 3 c_Rounds "put" ["self", "name", "share"] [[]] (zye c_Taken c_NoShare c_Rounds c_Members):=by
 have M_Members_put:=zhp (P:=P) (w:=w) (base:=base) T
 have M_Rounds_enter:=zkd (P:=P) (w:=w) (base:=base) T
 refine T.me_Rounds_put.okX (k:=2) zlk (fun vs H Q E h=>?_) (fun f cdv A outer s H vs Q E hr h=>?_)
 ·obtain ⟨a,most,nm,q,rs,tu,ch,x,s,rfl,_⟩:=h
  rfl
 ·obtain ⟨a,most,nm,q,rs,tu,ch,x,s,rfl,S,h,nl,kt,ks,k⟩:=h
  refine ⟨_,(zad (zav (zaw (dvs:=[]) M_Members_put (by simp) T.cl_Members (hr.mono (by decide)) passF (zas (pv 0) rfl) (zaa (pv 1) (zaa (pv 2) zag)))) (zaf (zav (zaw (dvs:=[]) M_Rounds_enter (by simp) T.cl_Rounds (hr.mono (by decide)) passF (pv 0) (zaa (pv 1) zag))))),?_⟩
  show tSeq _ _ _ [some (.ref a.p),some (.str x),some (.int s)] H
  obtain ⟨dx,fs,hp,ft⟩:=S.ex
  obtain ⟨dm,fm,hpm,hfm,hno,hlen⟩:=S.mb.ex
  obtain ⟨l1,l2⟩:=zva h
  refine zae fun R hR=>?_
  walk_at "rd"
  refine zap hp T.cl_Rounds T.na_Rounds_members ft.me ?_
  refine zbc hpm (hno _ (by decide +kernel)) ⟨a.pm,a.ps,nm,x,s,rfl,S.mb,by omega,kt,ks,fun hx hs=>hR _ _ ?_⟩
  have S:=S.set_s (nm':=nm++[(x,s)])
  have ow:Own a H (upd H a.ps (.dK (kvsOf (nm++[(x,s)])))):=own_s
  generalize upd H a.ps (.dK (kvsOf (nm++[(x,s)])))=H1 at S ow ⊢
  walk_at "rd"
  exact S.meth (by decide +kernel) ⟨a,most,_,q,rs,tu,ch,x,rfl,S,by omega,by omega,(by rw [Sw.sh_none,h.ks,<- Sw.sh_none]; exact hx),fun H' o' S'=>k hx hs H' (ow.trans o') S'⟩
def zwh (cC C Cm:Addr):Sp:=fun vs H Q E=>∃ a most nm q rs tu ch x,vs = [.ref a.p,.str x]/\Rx C Cm H a most nm q rs tu ch/\Sw.RI most nm q rs tu/\nm.length<=90/\(∀ y∈nm.map (·.1),PyData.strOk y=true)/\(shOf nm x=none->Rs cC H E)/\(shOf nm x≠none->∀ H',Own a H H'->Rx C Cm H' a most (dropN nm x) (if tu=some x then q else q.erase x) (dropN rs x) (if tu=some x then none else tu) ch->Q .non H')
theorem zlm (T:Txt K mg c_NoName c_Taken c_NoClass c_NoPlace c_NoShare c_NoLength c_Members c_Chooser c_Starts c_Rounds c_Node c_Tree):MethD P w K mg base (CXX P w) 3 c_Rounds "take" ["self", "name"] [[]] (zwh c_NoClass c_Rounds c_Members):=by
 have M_Members_take:=zgn (P:=P) (w:=w) (base:=base) T
 have M_Rounds_leave:=zke (P:=P) (w:=w) (base:=base) T
 refine T.me_Rounds_take.okX (k:=2) zjz (fun vs H Q E h=>?_) (fun f cdv A outer s H vs Q E hr h=>?_)
 ·obtain ⟨a,most,nm,q,rs,tu,ch,x,rfl,_⟩:=h
  rfl
 ·obtain ⟨a,most,nm,q,rs,tu,ch,x,rfl,S,h,nl,ok,kx,k⟩:=h
  refine ⟨_,(zad (zav (zaw (dvs:=[]) M_Members_take (by simp) T.cl_Members (hr.mono (by decide)) passF (zas (pv 0) rfl) (zaa (pv 1) zag))) (zaf (zav (zaw (dvs:=[]) M_Rounds_leave (by simp) T.cl_Rounds (hr.mono (by decide)) passF (pv 0) (zaa (pv 1) zag))))),?_⟩
  show tSeq _ _ _ [some (.ref a.p),some (.str x)] H
  obtain ⟨dx,fs,hp,ft⟩:=S.ex
  obtain ⟨dm,fm,hpm,hfm,hno,hlen⟩:=S.mb.ex
  obtain ⟨l1,l2⟩:=zva h
  refine zae fun R hR=>?_
  walk_at "rd"
  refine zap hp T.cl_Rounds T.na_Rounds_members ft.me ?_
  refine zbc hpm (hno _ (by decide +kernel)) ⟨a.pm,a.ps,nm,x,rfl,S.mb,kx,fun hx=>hR _ _ ?_⟩
  have S:=S.set_s (nm':=dropN nm x)
  have ow:Own a H (upd H a.ps (.dK (kvsOf (dropN nm x)))):=own_s
  generalize upd H a.ps (.dK (kvsOf (dropN nm x)))=H1 at S ow ⊢
  walk_at "rd"
  refine S.meth (by decide +kernel) ⟨a,most,_,q,rs,tu,ch,x,rfl,S,(ri_rs h).mpr hx,fun ne=>?_,ri_nd h,by omega,fun y hy=>ok y (ri_q h hy),fun H' o' S'=>k hx H' (ow.trans o') S'⟩
  have:=h.pm.mem_iff.mpr (Sw.sh_mem.mp hx)
  rcases List.mem_append.mp this with z | z
  ·exact z
  ·cases tu with
   | none=>cases z
   | some y =>
    have:x=y:=by simpa using z
    exact absurd (by rw [this]) ne
def zud (C Cm:Addr):Sp:=fun vs H Q _=>∃ a most nm q rs tu ch,vs = [.ref a.p]/\Rx C Cm H a most nm q rs tu ch/\∀ l,H l=none->Q (.ref l) (upd H l (.lst (nmV nm)))
theorem zgp (T:Txt K mg c_NoName c_Taken c_NoClass c_NoPlace c_NoShare c_NoLength c_Members c_Chooser c_Starts c_Rounds c_Node c_Tree):MethD P w K mg base (CXX P w) 2 c_Rounds "names" ["self"] [[]] (zud c_Rounds c_Members):=by
 have M_Members_names:=zft (P:=P) (w:=w) (base:=base) T
 refine T.me_Rounds_names.okN (k:=1) zjo (fun vs H Q E h=>?_) (fun f cdv A outer s H vs Q E hr h=>?_)
 ·obtain ⟨a,most,nm,q,rs,tu,ch,rfl,_⟩:=h
  rfl
 ·obtain ⟨a,most,nm,q,rs,tu,ch,rfl,S,k⟩:=h
  refine ⟨_,(zaf (zar (zeb (dvs:=[]) M_Members_names (by simp) T.cl_Members (hr.mono (by decide)) passN (zas (pv 0) rfl)))),?_⟩
  show tRet _ _ [some (.ref a.p)] H
  obtain ⟨dx,fs,hp,ft⟩:=S.ex
  obtain ⟨dm,fm,hpm,hfm,hno,hlen⟩:=S.mb.ex
  walk_at "rd"
  refine zap hp T.cl_Rounds T.na_Rounds_members ft.me ?_
  exact zbc hpm (hno _ (by decide +kernel)) ⟨a.pm,a.ps,nm,rfl,S.mb,k⟩
theorem zkf (T:Txt K mg c_NoName c_Taken c_NoClass c_NoPlace c_NoShare c_NoLength c_Members c_Chooser c_Starts c_Rounds c_Node c_Tree):Def P w K mg base (CXX P w) 1 "_law_cell_at" ["_law_script", "_law_k"] (zus K):=by
 refine T.src__law_cell_at.okN (k:=0) zjf (fun vs H Q E h=>?_) (fun f cdv A outer s H vs Q E hr h=>?_)
 ·obtain ⟨a,ns,i,rfl,_⟩:=h
  rfl
 ·obtain ⟨a,ns,i,rfl,hS,hi,k⟩:=h
  refine ⟨_,(zad (ps_if (zau op_lt (pv 1) (zbq (zfe K rfl) rfl T.no_len boot_len (zaa (pv 0) zag)) (zba _)) (zaf (zar (pe_ix (zbe K rfl) (pv 0) (pv 1) (fun _ _=>rfl)))) zaq) (zaf (zar zak))),?_⟩
  refine ⟨_,rfl,_,rfl,a,_,rfl,.inl hS,_,_,rfl,rfl,_,rfl,?_⟩
  refine ite2 (fun h=>?_) (fun h=>?_)
  ·have h':i<(ns.map V.int).length:=of_decide_eq_true h
   exact ⟨_,rfl,_,rfl,a,_,_,_,rfl,rfl,hS,zqe hi (by simpa using h'),k⟩
  ·have h':¬ i<(ns.map V.int).length:=fun z=>h (decide_eq_true z)
   show Q (.int 0) H
   rw [znr hi (by simpa using h')] at k
   exact k
theorem zpr (xs:List V) (n:Nat) (h:n<=xs.length):cutV xs (some (n:Int)) none=xs.drop n:=by
 unfold cutV
 rw [HT.sIx_none,HT.sIx_nat,Nat.min_eq_left h]
 exact List.take_of_length_le (by rw [List.length_drop]; omega)
def zue:Sp:=fun vs H Q _=>∃ c mn,vs = [.int c,.int ((mn:Nat):Int)]/\mn<=60/\∀ p (ms:List Int) H',Same H H'->H p=none->H' p=some (.lst (ms.map V.int))->ms.length=mn->(∀ m∈ms,0<=m/\m<2147483647)->Q (.ref p) H'
theorem zln (T:Txt K mg c_NoName c_Taken c_NoClass c_NoPlace c_NoShare c_NoLength c_Members c_Chooser c_Starts c_Rounds c_Node c_Tree):Def P w K mg base (CXX P w) 1 "_law_stream" ["_law_cell", "_law_many"] zue:=by
 refine T.src__law_stream.okN (k:=0) sc__law_stream (fun vs H Q E h=>?_) (fun f cdv A outer s H vs Q E hr h=>?_)
 ·obtain ⟨c,mn,rfl,_⟩:=h
  rfl
 ·obtain ⟨c,mn,rfl,mn6,k⟩:=h
  refine ⟨_,(zad (zbg (i:=2) sc__law_stream.nd rfl (by first|left;rfl|right;rfl) (zea zag)) (zad (zbg (i:=3) sc__law_stream.nd rfl (by first|left;rfl|right;rfl) (pe_op zew (pe_op zde (pv 0) zak) zak)) (zad (zqw PassesOwn.never rfl (zqu rfl T.no_range (zaa (pe_op zew (pv 1) zak) zag)) (zbs (i:=4) sc__law_stream.nd rfl (by first|left;rfl|right;rfl)) (zad (zbg (i:=3) sc__law_stream.nd rfl (by first|left;rfl|right;rfl) (pe_op zde (pe_op zew (pe_op zew (pe_op znp (pv 3) (pv 3)) (pe_op znp zak (pv 3))) (pv 4)) zak)) (zaf (zav (pe_bm PySem.F.plainAttrs_list PySem.F.slot_list_append PySem.F.type_list_append zen (pv 2) (zaa (pv 3) zag)))))) (zaf (zar (zfw (zhj K rfl) (pv 2) (zgs zak) ziq)))))),?_⟩
  show tSeq _ _ _ [some (.int c),some (.int ((mn:Nat):Int)),none,none,none] H
  refine zae fun R hR=>?_
  walk_at "rd"
  intro p0 hp0
  refine hR _ _ ?_
  have s0:=zai (o:=.lst []) hp0
  have h0:upd H p0 (.lst []) p0=some (.lst (([]:List Int).map V.int)):=zab
  generalize upd H p0 (.lst [])=H0 at s0 h0 ⊢
  refine zae fun R hR=>?_
  walk_at "rd"
  refine hR _ _ ?_
  have e1:=Int.emod_nonneg c (show (2147483647:Int)≠0 by decide)
  have e2:=Int.emod_lt_of_pos c (show (0:Int)<2147483647 by decide)
  generalize hx:c % 2147483647+48271=x
  have x0:0<=x:=by omega
  have x1:x<3000000000:=by omega
  clear hx e1 e2
  refine zae fun R hR=>?_
  refine zla fun Z hZ=>?_
  walk_at "rd"
  have e1:((mn:Int)+1).toNat=mn+1:=by omega
  rw [e1]
  refine ⟨by omega,by omega,hZ _ _ ?_⟩
  refine zqx (fun i σ H'=>∃ n v4 ms,σ = [some (.int c),some (.int ((mn:Nat):Int)),some (.ref p0),some (.int n),v4]/\Same H H'/\H' p0=some (.lst ((ms:List Int).map V.int))/\ms.length=i/\(∀ m∈ms,0<=m/\m<2147483647)/\0<=n/\n<3000000000) ⟨x,none,[],rfl,s0,h0,rfl,fun m h=>absurd h List.not_mem_nil,x0,x1⟩ ?_ ?_
  ·rintro i σ H1 hi ⟨n,v4,ms,rfl,sm,hl,lm,mm,n0,n1⟩
   show tSeq _ _ _ [some (.int c),some (.int ((mn:Nat):Int)),some (.ref p0),some (.int n),some (.int (0+(i:Int)))] H1
   have zn:Sw.Sz 70 n:=Sw.Sz.r18 (by omega) (by omega)
   refine zae fun R hR=>?_
   walk_at "rd"
   refine ⟨⟨zn.mono (by decide),zn.mono (by decide)⟩,⟨Sw.Sz.lit (by decide),zn.mono (by decide)⟩,hR _ _ ?_⟩
   generalize hy:(n*n+48271*n+(0+(i:Int))) % 2147483647=y
   have y0:0<=y:=by rw [<- hy]; exact Int.emod_nonneg _ (by decide)
   have y1:y<2147483647:=by rw [<- hy]; exact Int.emod_lt_of_pos _ (by decide)
   refine ziy fun R hR=>?_
   walk_at "rd"
   refine ⟨zgl hl,zix hl (by rw [List.length_map]; omega) (hR _ _ ?_)⟩
   refine ⟨y,_,ms++[y],rfl,fun b o e=>?_,by rw [zab,List.map_append]; rfl,by simp [lm],fun m h=>?_,y0,by omega⟩
   ·rw [zah (zao e hp0)]; exact sm _ _ e
   ·rcases List.mem_append.mp h with z | z
    ·exact mm m z
    ·have:m=y:=by simpa using z
     subst this
     exact ⟨y0,y1⟩
  ·rintro σ H1 ⟨n,v4,ms,rfl,sm,hl,lm,mm,n0,n1⟩
   refine hR _ _ ?_
   walk_at "rd"
   refine zmj (.of hl) fun p hp=>?_
   have lm:ms.length=mn+1:=by simpa using lm
   have ec:=zpr (ms.map V.int) 1 (by rw [List.length_map]; omega)
   refine k p (ms.drop 1) _ (sm.trans (zai hp)) (sm.free hp) (by rw [zab]; exact congrArg (fun z=>some (HO.lst z)) (ec.trans (by rw [List.map_drop]))) (by rw [List.length_drop,lm]; omega) fun m h=>mm m (List.mem_of_mem_drop h)
def spCM (cL:Addr):Sp:=fun vs H Q E=>∃ m:Int,vs = [.int m]/\(1<=m/\m<=1000000->Q .non H)/\(¬ (1<=m/\m<=1000000)->Rs cL H E)
theorem znf (T:Txt K mg c_NoName c_Taken c_NoClass c_NoPlace c_NoShare c_NoLength c_Members c_Chooser c_Starts c_Rounds c_Node c_Tree):Def P w K mg base (CXX P w) 1 "check_most" ["most"] (spCM c_NoLength):=by
 refine T.src_check_most.okX (k:=0) zlg (fun vs H Q E h=>?_) (fun f cdv A outer s H vs Q E hr h=>?_)
 ·obtain ⟨m,rfl,_⟩:=h
  rfl
 ·obtain ⟨m,rfl,k,kx⟩:=h
  refine ⟨_,(zaf (ps_if (zii (zku op_le op_le zak (pv 0) (zie rfl T.mg_GREATEST_LENGTH))) (zaf (zcn K rfl rfl zeq (zer T.ex_NoLength T.kp_NoLength rfl T.mg_NoLength (zaa zbd zag)))) zaq)),?_⟩
  show tIfS _ _ _ _ [some (.int m)] H
  walk_at "rd"
  refine ite2 (fun c1=>ite2 (fun c2=>k ⟨c1,c2⟩) fun c2=>rs_of (kx fun q=>c2 q.2) T.xc_NoLength) fun c1=>rs_of (kx fun q=>c1 q.1) T.xc_NoLength
def spIN:Sp:=fun vs H Q _=>∃ z:Str,vs = [.str z]/\z.length<=10000/\∀ H',Same H H'->Q (.bl (decide (zec z))) H'
theorem zst (T:Txt K mg c_NoName c_Taken c_NoClass c_NoPlace c_NoShare c_NoLength c_Members c_Chooser c_Starts c_Rounds c_Node c_Tree):Def P w K mg base (CXX P w) 1 "is_name" ["text"] spIN:=by
 refine T.src_is_name.okN (k:=0) zqi (fun vs H Q E h=>?_) (fun f cdv A outer s H vs Q E hr h=>?_)
 ·obtain ⟨z,rfl,_⟩:=h
  rfl
 ·obtain ⟨z,rfl,zl,k⟩:=h
  refine ⟨_,(zaf (zar (zij (ztc op_le op_le zak (zbq zmb rfl T.no_len boot_len (zaa (pv 0) zag)) (zie rfl T.mg_LONGEST_NAME)) (zia (zbq (zrv K rfl rfl) rfl T.no_all boot_all (zaa (pe_lc ["sign"] [] rfl (by with_unfolding_all rfl) (by decide +kernel) rfl (by decide +kernel) (by exact True.intro) (by with_unfolding_all rfl) True.intro (zuy (pv 0)) (fun _ _ _=>(zbs (i:=0) (show (["sign"]:List Str).Nodup from by decide +kernel) rfl (by first|left;rfl|right;rfl))) (fun _ _ _=>zes) (fun _ _ _=>(zep zxz (pv 0) (zgd rfl T.mg_LETTERS) rfl))) zag)))))),?_⟩
  show tRet _ _ [some (.str z)] H
  walk_at "rd"
  have no:∀ {H'},Same H H'->¬ zec z->Q (.bl false) H':=fun s q=>by
   have:=k _ s
   rw [decide_eq_false q] at this
   exact this
  refine ⟨zfq (by omega),ite2 (fun c1=>ite2 (fun c2=>?_) fun c2=>no (Same.refl _) fun q=>c2 (by have:=q.1.2; omega)) fun c1=>no (Same.refl _) fun q=>c1 (by have:=q.1.1; omega)⟩
  simp only [iStr]
  walk_at "rd"
  intro D hD
  show CompG _ _ _ _ D [none] _ _
  refine zpn (fun i τ H'=>(∃ v,τ = [v])/\Same H H'/\H' D=some (.lst (((z.cps.toList.take i).map fun c=>decide (c∈lets.cps.toList)).map V.bl))) ⟨⟨none,rfl⟩,zai hD,zab⟩ ?_ ?_
  ·rintro i c τ H' hc ⟨⟨v,rfl⟩,s',hDl⟩
   have hi:=(List.getElem?_eq_some_iff.mp hc).1
   rw [Sw.len_list] at hi
   walk_at "rd"
   simp only [tYes,if_true]
   walk_at "rd"
   refine ⟨sg c,lets,rfl,rfl,?_⟩
   refine ⟨_,hDl,zfl (by rw [List.length_map,List.length_map,List.length_take]; omega),fun b o e=>?_,?_⟩
   ·rw [zah (zao e hD)]; exact s' _ _ e
   ·rw [zab,zfm hc,List.map_append,List.map_append]
    show some (HO.lst (_++[V.bl (Txt.contains lets (sg c))]))=some (HO.lst (_++[V.bl (decide (c∈lets.cps.toList))]))
    rw [Sw.in_str lets c]
  ·rintro τ H1 ⟨_,s1,hDl⟩
   rw [<- Sw.len_list,List.take_length] at hDl
   refine ⟨D,_,rfl,.of hDl,?_⟩
   have e:((z.cps.toList.map fun c=>decide (c∈lets.cps.toList)).all id)=decide (zec z):=by
    rw [Bool.eq_iff_iff,List.all_eq_true,decide_eq_true_iff]
    constructor
    ·intro h
     refine ⟨⟨by omega,by omega⟩,fun c hc=>?_⟩
     have:=h _ (List.mem_map.mpr ⟨c,hc,rfl⟩)
     simpa using this
    ·intro h x hx
     obtain ⟨c,hc,rfl⟩:=List.mem_map.mp hx
     simpa using h.2 c hc
   rw [e]
   exact k _ s1
def spCO (cS cR cM:Addr):Sp:=fun vs H Q _=>∃ (kd:Str) (m:Int),vs = [.str kd,.int m]/\1<=m/\(Inner kd->∀ (a:At5) H',Same H H'->(∀ b∈five a,H b=none)->ChS cS cR cM H' a m (CSt.new (kdB kd))->Q (.ref a.p) H')/\(¬ Inner kd->Q .non H)
theorem zib (T:Txt K mg c_NoName c_Taken c_NoClass c_NoPlace c_NoShare c_NoLength c_Members c_Chooser c_Starts c_Rounds c_Node c_Tree):Def P w K mg base (CXX P w) 6 "chooser_of" ["kind", "most"] (spCO c_Starts c_Rounds c_Members):=by
 have K_Starts:=ztz (P:=P) (w:=w) (base:=base) T
 have K_Rounds:=zua (P:=P) (w:=w) (base:=base) T
 refine T.src_chooser_of.okN (k:=5) zlh (fun vs H Q E h=>?_) (fun f cdv A outer s H vs Q E hr h=>?_)
 ·obtain ⟨c,m,rfl,_⟩:=h
  rfl
 ·obtain ⟨kd,m,rfl,m1,k,kn⟩:=h
  refine ⟨_,(zad (ps_if (zau op_eq (pv 0) zbd (zba _)) (zaf (zar (zhk (dvs:=[]) K_Starts (by simp) (hr.mono (by decide)) passN rfl T.mg_Starts (zaa (pv 1) zag)))) zaq) (zad (ps_if (zau op_eq (pv 0) zbd (zba _)) (zaf (zar (zhk (dvs:=[]) K_Rounds (by simp) (hr.mono (by decide)) passN rfl T.mg_Rounds (zaa (pv 1) zag)))) zaq) (zaf (zar zdd)))),?_⟩
  show tSeq _ _ _ [some (.str kd),some (.int m)] H
  have no:∀ {H1:Hp} {b:Addr},Same H H1->H1 b=none->H b=none:=fun {H1 b} s e=>by
   cases z:H b with
   | none=>rfl
   | some o=>rw [s _ _ z] at e; cases e
  have nw:∀ {a:At5} {H1:Hp},Same H H1->H a.p=none->H1 a.pm=none->H1 a.ps=none->H1 a.pt=none->H1 a.pg=none->∀ b∈five a,H b=none:=fun {a H1} s h1 h2 h3 h4 h5 b hb=>by
   rcases mem_five.mp hb with z | z | z | z | z <;> subst z
   ·exact h1
   ·exact no s h2
   ·exact no s h3
   ·exact no s h4
   ·exact no s h5
  refine zae fun R hR=>?_
  walk_at "rd"
  refine ite2 (fun c1=>?_) fun c1=>hR _ _ ?_
  ·intro x dx hx hdx ne
   refine ⟨x,dx,m,rfl,zab,fun a H2 ea bt n1 n2 n3 n4 S=>⟨rfl,?_⟩⟩
   subst ea
   have e:kdB kd=false:=by rw [c1]; decide +kernel
   exact k (.inl c1) a H2 (bt.same (zdr hx hdx) hx) (nw (zdr hx hdx) hx n1 n2 n3 n4) (by rw [e]; exact S)
  clear hR
  refine zae fun R hR=>?_
  walk_at "rd"
  refine ite2 (fun c2=>?_) fun c2=>hR _ _ ?_
  ·intro x dx hx hdx ne
   refine ⟨x,dx,m,rfl,zab,fun a H2 ea bt n1 n2 n3 n4 S=>⟨rfl,?_⟩⟩
   subst ea
   have e:kdB kd=true:=by rw [c2]; decide +kernel
   exact k (.inr c2) a H2 (bt.same (zdr hx hdx) hx) (nw (zdr hx hdx) hx n1 n2 n3 n4) (by rw [e]; exact S)
  walk_at "rd"
  exact kn fun q=>q.elim c1 c2
def spNI (cN:Addr):Sp:=fun vs H Q _=>∃ x dx ab ch rm,vs = [.ref x,ab,ch,rm]/\H x=some (.ins cN dx [])/\∀ ql fs H',But x H H'->H ql=none->H' x=some (.ins cN dx fs)->FN fs ab ch rm .non ql->H' ql=some (.lst [])->Q .non H'
theorem zvb (T:Txt K mg c_NoName c_Taken c_NoClass c_NoPlace c_NoShare c_NoLength c_Members c_Chooser c_Starts c_Rounds c_Node c_Tree):MkD P w K mg base (CXX P w) 1 c_Node ["self", "above", "chooser", "room"] [[],[V.non]] (spNI c_Node):=by
 refine T.in_Node.okN (k:=0) zmz (fun vs H Q E h=>?_) (fun f cdv A outer s H vs Q E hr h=>?_)
 ·obtain ⟨x,dx,ab,ch,rm,rfl,_⟩:=h
  rfl
 ·obtain ⟨x,dx,ab,ch,rm,rfl,hx,k⟩:=h
  refine ⟨_,(zad (zcr (pv 0) (pv 1) rfl) (zad (zcr (pv 0) (pv 2) rfl) (zad (zcr (pv 0) (pv 3) rfl) (zad (zcr (pv 0) zdd rfl) (zaf (zcr (pv 0) (zea zag) rfl)))))),?_⟩
  show tSeq _ _ _ [some (.ref x),some ab,some ch,some rm] H
  have l1:=zan (fs:=[]) (f := "above") (v:=ab)
  have l2:=zan (fs:=putF "above" ab []) (f := "chooser") (v:=ch)
  have l3:=zan (fs:=putF "chooser" ch (putF "above" ab [])) (f := "room") (v:=rm)
  have l4:=zan (fs:=putF "room" rm (putF "chooser" ch (putF "above" ab []))) (f := "bucket") (v:=.non)
  simp only [List.length_nil] at l1
  refine zae fun R hR=>?_
  walk_at "rd"
  refine zcs hx T.cl_Node T.na_Node_above (by simp) (hR _ _ ?_)
  clear hR
  refine zae fun R hR=>?_
  walk_at "rd"
  refine zcs zab T.cl_Node T.na_Node_chooser (by omega) (hR _ _ ?_)
  clear hR
  rw [zfd]
  refine zae fun R hR=>?_
  walk_at "rd"
  refine zcs zab T.cl_Node T.na_Node_room (by omega) (hR _ _ ?_)
  clear hR
  rw [zfd]
  refine zae fun R hR=>?_
  walk_at "rd"
  refine zcs zab T.cl_Node T.na_Node_bucket (by omega) (hR _ _ ?_)
  clear hR
  rw [zfd]
  walk_at "rd"
  intro ql fql
  have nx:ql≠x:=fun z=>by rw [z,zab] at fql; cases fql
  have nql:H ql=none:=by rw [zah nx] at fql; exact fql
  refine zcs (by rw [zah (Ne.symm nx),zab]) T.cl_Node T.na_Node_queue (by omega) ?_
  refine k ql _ _ (fun b o n e=>?_) nql zab (FN.mk0 _ _ _ _ _) ?_
  ·rw [zah n,zah (zao e nql),zah n]; exact e
  ·rw [zah nx,zab]
def spCC (cC:Addr) (C:Cl):Sp:=fun vs H Q E=>∃ (D:TD) (x:Str),vs = [.ref D.p,.str x]/\TrOk C H D/\(x≠road->fndN D.ns x≠none->Q .non H)/\(x=road\/fndN D.ns x=none->Rs cC H E)
theorem zdg (T:Txt K mg c_NoName c_Taken c_NoClass c_NoPlace c_NoShare c_NoLength c_Members c_Chooser c_Starts c_Rounds c_Node c_Tree):MethD P w K mg base (CXX P w) 1 c_Tree "check_class" ["self", "name"] [[]] (spCC c_NoClass (⟨c_Node,c_Starts,c_Rounds,c_Members,c_Node,c_Tree⟩:Cl)):=by
 refine T.me_Tree_check_class.okX (k:=0) zgz (fun vs H Q E h=>?_) (fun f cdv A outer s H vs Q E hr h=>?_)
 ·obtain ⟨D,x,rfl,_⟩:=h
  rfl
 ·obtain ⟨D,x,rfl,O,k,kx⟩:=h
  refine ⟨_,(zaf (ps_if (PW.pt (pw_or (zau op_eq (pv 1) (zgd rfl T.mg_ROAD) (zba _)) (zqr (zgk (zeo (hu_of hr) (pv 1) (zas (pv 0) rfl)))))) (zaf (zcn K rfl rfl zeq (zer T.ex_NoClass T.kp_NoClass rfl T.mg_NoClass (zaa zbd zag)))) zaq)),?_⟩
  show tIfS _ _ _ _ [some (.ref D.p),some (.str x)] H
  obtain ⟨dx,fs,hp,ft⟩:=O.ex
  walk_at "rd"
  refine ite2 (fun c1=>rs_of (kx (.inl c1)) T.xc_NoClass) fun c1=>?_
  refine zap hp T.cl_Tree T.na_Tree_nodes ft.no ?_
  walk_at "rd"
  refine ⟨_,DGet.k (k:=Sum.inr x) O.hn,?_⟩
  rw [zhw]
  cases e:fndN D.ns x with
  | none=>exact rs_of (kx (.inr e)) T.xc_NoClass
  | some v=>exact k c1 (by rw [e]; simp)
def spFR (C:Cl):Sp:=fun vs H Q _=>∃ (D:TD) (x:Str) (ys:List Str),vs = [.ref D.p,.str x]/\TrOk C H D/\Up D.ns x ys/\ys.length<=900/\∀ l H',Same H H'->H l=none->H' l=some (.lst (ys.reverse.map V.str))->Q (.ref l) H'
theorem zfo (T:Txt K mg c_NoName c_Taken c_NoClass c_NoPlace c_NoShare c_NoLength c_Members c_Chooser c_Starts c_Rounds c_Node c_Tree):MethD P w K mg base (CXX P w) 1 c_Tree "from_road" ["self", "name"] [[]] (spFR (⟨c_Node,c_Starts,c_Rounds,c_Members,c_Node,c_Tree⟩:Cl)):=by
 refine T.me_Tree_from_road.okN (k:=0) sc_Tree_from_road (fun vs H Q E h=>?_) (fun f cdv A outer s H vs Q E hr h=>?_)
 ·obtain ⟨D,x,ys,rfl,_⟩:=h
  rfl
 ·obtain ⟨D,x,ys,rfl,O,U,yl,k⟩:=h
  refine ⟨_,(zad (zbg (i:=2) sc_Tree_from_road.nd rfl (by first|left;rfl|right;rfl) (zea zag)) (zad (zot PassesOwn.never (zau zim (pv 1) zdd (zba _)) (zad (zav (pe_bm PySem.F.plainAttrs_list PySem.F.slot_list_append PySem.F.type_list_append zen (pv 2) (zaa (pv 1) zag))) (zaf (zbg (i:=1) sc_Tree_from_road.nd rfl (by first|left;rfl|right;rfl) (zas (zca (hu_of hr) (zas (pv 0) rfl) (pv 1) (fun _ _=>rfl)) rfl))))) (zad (zav (zxk PySem.F.plainAttrs_list PySem.F.slot_list_reverse PySem.F.type_list_reverse zqd (pv 2))) (zaf (zar (pv 2)))))),?_⟩
  show tSeq _ _ _ [some (.ref D.p),some (.str x),none] H
  refine zae fun R hR=>?_
  walk_at "rd"
  intro l hl
  have s0:=zai (o:=.lst []) hl
  refine hR _ _ ?_
  clear hR
  refine zae fun R hR=>?_
  refine zvu (fun m σ H'=>∃ (xo:Option Str) (zs ws:List Str),σ = [some (.ref D.p),some (optS xo),some (.ref l)]/\Same H H'/\H' l=some (.lst (zs.map V.str))/\ys=zs++ws/\(∀ z,xo=some z->Up D.ns z ws)/\(xo=none->ws = [])/\m=ws.length) ⟨some x,[],ys,rfl,s0,zab,rfl,fun z e=>(by cases e; exact U),fun e=>(by cases e),rfl⟩ ?_
  rintro m σ H1 ⟨xo,zs,ws,rfl,s1,h1,ey,hu,hn,rfl⟩
  cases xo with
  | none =>
   refine ⟨false,fun Q hQ=>?_,fun z=>(by cases z),fun _=>?_⟩
   ·walk_at "rd"
    exact hQ
   ·have:ws = []:=hn rfl
    subst this
    rw [List.append_nil] at ey
    subst ey
    refine hR _ _ ?_
    clear hR
    refine zae fun R hR=>?_
    walk_at "rd"
    refine ⟨zgl h1,l,_,rfl,rfl,h1,hR _ _ ?_⟩
    walk_at "rd"
    refine k l _ (fun b o e=>?_) hl ?_
    ·rw [zah (zao e hl)]; exact s1 _ _ e
    ·rw [zab,List.map_reverse]
  | some z =>
   have Uz:=hu z rfl
   obtain ⟨n,hz⟩:=Uz.fnd
   refine ⟨true,fun Q hQ=>?_,fun _=>?_,fun z=>by cases z⟩
   ·walk_at "rd"
    exact hQ
   ·have zl:zs.length<=900:=by rw [ey,List.length_append] at yl; omega
    refine zae fun R hR=>?_
    walk_at "rd"
    refine ⟨zgl h1,zix h1 (by rw [List.length_map]; omega) (hR _ _ ?_)⟩
    clear hR
    have O1:=O.same s1
    have s2:Same H (upd H1 l (.lst (zs.map V.str++[.str z]))):=fun b o e=>by rw [zah (zao e hl)]; exact s1 _ _ e
    have O2:=O.same s2
    have h2:upd H1 l (.lst (zs.map V.str++[.str z])) l=some (.lst ((zs++[z]).map V.str)):=by rw [zab,List.map_append]; rfl
    show tAsg _ _ _ _ (upd H1 l (.lst (zs.map V.str++[.str z])))
    generalize upd H1 l (.lst (zs.map V.str++[.str z]))=H2 at s2 O2 h2 ⊢
    obtain ⟨dx,fs,hp,ft⟩:=O2.ex
    obtain ⟨nin,_⟩:=zbm hz
    obtain ⟨dn,fn,hnp,hft⟩:=(O2.nd n nin).ex
    walk_at "rd"
    refine zap hp T.cl_Tree T.na_Tree_nodes ft.no ?_
    walk_at "rd"
    refine ⟨_,nd_at O2 hz,?_⟩
    refine zap hnp T.cl_Node T.na_Node_above hft.ab ?_
    cases Uz with
    | top q1 q2 =>
     rw [hz] at q1; cases q1
     exact ⟨0,by simp,none,by rw [q2],s2,zs++[z],h2,[],by rw [List.append_nil]; exact ey,fun z e=>(by cases e),fun _=>rfl,rfl⟩
    | on q1 q2 q3 =>
     rw [hz] at q1; cases q1
     rename_i y ys'
     exact ⟨ys'.length,by simp,some y,by rw [q2],s2,zs++[z],h2,ys',by rw [ey]; simp,fun z e=>(by cases e; exact q3),fun e=>(by cases e),rfl⟩
def spCP (cP:Addr) (C:Cl):Sp:=fun vs H Q E=>∃ (D:TD) (u kd:Str) (n:ND) (ys:List Str),vs = [.ref D.p,.str u,.str kd]/\TrOk C H D/\fndN D.ns u=some n/\Up D.ns u ys/\ys.length<=900/\(∀ H',Same H H'->¬ (kdOk kd/\n.ch≠none/\ys.length<=5)->Rs cP H' E)/\(∀ H',Same H H'->kdOk kd/\n.ch≠none/\ys.length<=5->Q .non H')
theorem zhq (T:Txt K mg c_NoName c_Taken c_NoClass c_NoPlace c_NoShare c_NoLength c_Members c_Chooser c_Starts c_Rounds c_Node c_Tree):MethD P w K mg base (CXX P w) 2 c_Tree "check_place" ["self", "under", "kind"] [[]] (spCP c_NoPlace (⟨c_Node,c_Starts,c_Rounds,c_Members,c_Node,c_Tree⟩:Cl)):=by
 have M_Tree_from_road:=zfo (P:=P) (w:=w) (base:=base) T
 refine T.me_Tree_check_place.okX (k:=1) zha (fun vs H Q E h=>?_) (fun f cdv A outer s H vs Q E hr h=>?_)
 ·obtain ⟨D,u,kd,n,ys,rfl,_⟩:=h
  rfl
 ·obtain ⟨D,u,kd,n,ys,rfl,O,hu,U,yl,kx,k⟩:=h
  obtain ⟨t_INNER_KINDS,h_INNER_KINDS,w_INNER_KINDS⟩:=T.mg_INNER_KINDS
  refine ⟨_,(zad (ps_if (PW.pt (zki (zau op_ne (pv 2) (zgd rfl T.mg_LEAF) (zba _)) (zih (zau (zmr K rfl) (pv 2) (zkt (v:=.ref t_INNER_KINDS) rfl h_INNER_KINDS rfl) rfl)))) (zaf (zcn K rfl rfl zeq (zer T.ex_NoPlace T.kp_NoPlace rfl T.mg_NoPlace (zaa zbd zag)))) zaq) (zad (ps_if (zau zil (zas (zca (hu_of hr) (zas (pv 0) rfl) (pv 1) (fun _ _=>rfl)) rfl) zdd (zba _)) (zaf (zcn K rfl rfl zeq (zer T.ex_NoPlace T.kp_NoPlace rfl T.mg_NoPlace (zaa zbd zag)))) zaq) (zaf (ps_if (zau op_gt (zbq (zfe K rfl) rfl T.no_len boot_len (zaa (zaw (dvs:=[]) M_Tree_from_road (by simp) T.cl_Tree (hr.mono (by decide)) passF (pv 0) (zaa (pv 1) zag)) zag)) (zie rfl T.mg_LONGEST_WAY) (zba _)) (zaf (zcn K rfl rfl zeq (zer T.ex_NoPlace T.kp_NoPlace rfl T.mg_NoPlace (zaa zbd zag)))) zaq)))),?_⟩
  show tSeq _ _ _ [some (.ref D.p),some (.str u),some (.str kd)] H
  obtain ⟨dx,fs,hp,ft⟩:=O.ex
  obtain ⟨nin,_⟩:=zbm hu
  obtain ⟨dn,fn,hnp,hft⟩:=(O.nd n nin).ex
  refine zae fun R hR=>?_
  walk_at "rd"
  have on:kdOk kd->R [some (.ref D.p),some (.str u),some (.str kd)] H:=fun ok=>hR _ _ (by
   clear hR
   refine zae fun R hR=>?_
   walk_at "rd"
   refine zap hp T.cl_Tree T.na_Tree_nodes ft.no ?_
   walk_at "rd"
   refine ⟨_,nd_at O hu,?_⟩
   refine zap hnp T.cl_Node T.na_Node_chooser hft.ch ?_
   cases hc:n.ch with
   | none =>
    walk_at "rd"
    exact rs_of (kx H (Same.refl _) fun q=>q.2.1 hc) T.xc_NoPlace
   | some c =>
    show R _ _
    refine hR _ _ ?_
    walk_at "rd"
    refine zbc hp (ft.mis _ (by decide +kernel) (by decide +kernel) (by decide +kernel) (by decide +kernel) (by decide +kernel) (by decide +kernel)) ⟨D,u,ys,rfl,O,U,yl,fun l H' s' hl e=>?_⟩
    refine zmi (.of e) ⟨_,rfl,?_⟩
    rw [List.length_map,List.length_reverse]
    refine ite2 (fun c2=>rs_of (kx H' s' fun q=>by omega) T.xc_NoPlace) fun c2=>k H' s' ⟨ok,by rw [hc]; simp,by omega⟩)
  refine ite2 (fun c1=>on (.inl c1)) fun c1=>?_
  refine ⟨_,_,rfl,.inr (w_INNER_KINDS H),rfl,rfl,_,rfl,?_⟩
  rw [zpo,if_pos rfl]
  by_cases c2:Inner kd
  ·rw [if_neg (by simp [c2])]
   exact on (.inr c2)
  ·rw [if_pos (by simp [c2])]
   exact rs_of (kx H (Same.refl _) fun q=>q.1.elim c1 c2) T.xc_NoPlace
def spTP (cN cT cC cP cS cL:Addr) (C:Cl):Sp:=fun vs H Q E=>∃ (D:TD) (x u kd:Str) (s:Int) (rm:V),vs = [.ref D.p,.str x,.str u,.str kd,.int s,rm]/\TrOk C H D/\D.Wf/\D.fit/\StOk 10000 x/\(rm = .non\/∃ r,rm = .int r) /\
 (∀ r,dueP D x u kd s rm=some r->∀ H',Same H H'->Rs (r.at cN cT cC cP cS cL) H' E) /\
 (dueP D x u kd s rm=none->∀ (un:ND) (c:At5×CSt) (n:ND) H',fndN D.ns u=some un->un.ch=some c->n.nm=x->n.ab=some u->n.rm=rm->n.bk=none->n.ps = []->n.qu = []->(kd=Str.ofString "leaf" -> n.ch=none)->(Inner kd->∃ a,n.ch=some (a,CSt.new (kdB kd)))->(∀ b∈n.foot,H b=none)->TrOk C H' (D.put un c s n)->Deed D.foot H H'->Q .non H')
theorem zqj (T:Txt K mg c_NoName c_Taken c_NoClass c_NoPlace c_NoShare c_NoLength c_Members c_Chooser c_Starts c_Rounds c_Node c_Tree):MethD P w K mg base (CXX P w) 7 c_Tree "put" ["self", "name", "under", "kind", "share", "room"] [[],[V.non]] (spTP c_NoName c_Taken c_NoClass c_NoPlace c_NoShare c_NoLength (⟨c_Node,c_Starts,c_Rounds,c_Members,c_Node,c_Tree⟩:Cl)):=by
  have D_is_name:=zst (P:=P) (w:=w) (base:=base) T
  have M_Tree_check_place:=zhq (P:=P) (w:=w) (base:=base) T
  have D_check_share:=zho (P:=P) (w:=w) (base:=base) T
  have M_Starts_put:=znd (P:=P) (w:=w) (base:=base) T
  have M_Rounds_put:=zne (P:=P) (w:=w) (base:=base) T
  have K_Node:=zvb (P:=P) (w:=w) (base:=base) T
  have D_chooser_of:=zib (P:=P) (w:=w) (base:=base) T
  refine T.me_Tree_put.okX (k:=6) zoc (fun vs H Q E h=>?_) (fun f cdv A outer s H vs Q E hr h=>?_)
  · obtain ⟨D,x,u,kd,s,rm,rfl,_⟩:=h
    rfl
  · obtain ⟨D,x,u,kd,s,rm,rfl,O,W,F,xl,hrm,kx,k⟩:=h
    refine ⟨_,(zad (ps_if (zii (zhz (zbb D_is_name (hr.mono (by decide)) rfl passF (zaa (pv 1) zag)))) (zaf (zcn K rfl rfl zeq (zer T.ex_NoName T.kp_NoName rfl T.mg_NoName (zaa zbd zag)))) zaq) (zad (ps_if (zgk (zuv (hu_of hr) (pv 1) (zas (pv 0) rfl))) (zaf (zcn K rfl rfl zeq (zer T.ex_Taken T.kp_Taken rfl T.mg_Taken (zaa zbd zag)))) zaq) (zad (ps_if (zgk (zeo (hu_of hr) (pv 2) (zas (pv 0) rfl))) (zaf (zcn K rfl rfl zeq (zer T.ex_NoClass T.kp_NoClass rfl T.mg_NoClass (zaa zbd zag)))) zaq) (zad (zav (zaw (dvs:=[]) M_Tree_check_place (by simp) T.cl_Tree (hr.mono (by decide)) passF (pv 0) (zaa (pv 2) (zaa (pv 3) zag)))) (zad (zav (zbb D_check_share (hr.mono (by decide)) rfl passF (zaa (pv 4) zag))) (zad (ps_if (PW.pt (zki (zau op_eq (pv 3) (zgd rfl T.mg_LEAF) (zba _)) (zki (zau zim (pv 5) zdd (zba _)) (zih (zau op_lt (pv 5) zak (zba _)))))) (zaf (zcn K rfl rfl zeq (zer T.ex_NoLength T.kp_NoLength rfl T.mg_NoLength (zaa zbd zag)))) zaq) (zad (zav (zpm (zaw (dvs:=[]) M_Starts_put (by simp) T.cl_Starts (hr.mono (by decide)) passF (zas (zca (hu_of hr) (zas (pv 0) rfl) (pv 2) (fun _ _=>rfl)) rfl) (zaa (pv 1) (zaa (pv 4) zag))) (zaw (dvs:=[]) M_Rounds_put (by simp) T.cl_Rounds (hr.mono (by decide)) passF (zas (zca (hu_of hr) (zas (pv 0) rfl) (pv 2) (fun _ _=>rfl)) rfl) (zaa (pv 1) (zaa (pv 4) zag))))) (zaf (zhv (hu_of hr) (zas (pv 0) rfl) (pv 1) (zhk (dvs:=[]) K_Node (by simp) (hr.mono (by decide)) passF rfl T.mg_Node (zaa (pv 2) (zaa (zbb D_chooser_of (hr.mono (by decide)) rfl passF (zaa (pv 3) (zaa (zas (pv 0) rfl) zag))) (zaa (pv 5) zag)))) rfl))))))))),?_⟩
    show tSeq _ _ _ [some (.ref D.p),some (.str x),some (.str u),some (.str kd),some (.int s),some rm] H
    refine zae fun R hR=>?_
    walk_at "rd"
    refine ⟨x,rfl,xl.2,fun H1 s1=>?_⟩
    by_cases c1:zec x
    case neg =>
      rw [decide_eq_false c1]
      walk_at "rd"
      exact rs_of (kx _ (zpp c1) H1 s1) T.xc_NoName
    rw [decide_eq_true c1]
    walk_at "rd"
    refine hR _ _ ?_
    clear hR
    have O1:=O.same s1
    obtain ⟨dx,fs,hp,ft⟩:=O1.ex
    refine zae fun R hR=>?_
    walk_at "rd"
    refine zap hp T.cl_Tree T.na_Tree_nodes ft.no ?_
    walk_at "rd"
    refine ⟨_,DGet.k (k:=Sum.inr x) O1.hn,?_⟩
    rw [zhw]
    cases hx:fndN D.ns x with
    | some v =>
      exact rs_of (kx _ (zmu c1 (by rw [hx]; simp)) H1 s1) T.xc_Taken
    | none =>
    refine hR _ _ ?_
    clear hR
    refine zae fun R hR=>?_
    walk_at "rd"
    refine zap hp T.cl_Tree T.na_Tree_nodes ft.no ?_
    walk_at "rd"
    refine ⟨_,DGet.k (k:=Sum.inr u) O1.hn,?_⟩
    rw [zhw]
    cases hu:fndN D.ns u with
    | none =>
      exact rs_of (kx _ (zsp c1 hx hu) H1 s1) T.xc_NoClass
    | some un =>
    refine hR _ _ ?_
    clear hR
    obtain ⟨uin,une⟩:=zbm hu
    obtain ⟨ys,U,yl⟩:=W.up un uin
    rw [une] at U
    refine zae fun R hR=>?_
    walk_at "rd"
    refine zbc hp (ft.mis _ (by decide +kernel) (by decide +kernel) (by decide +kernel) (by decide +kernel) (by decide +kernel) (by decide +kernel)) ⟨D,u,kd,un,ys,rfl,O1,hu,U,by omega,fun H2 s2 bad=>?_,fun H2 s2 good=>hR _ _ ?_⟩
    · exact kx _ (zmv c1 hx hu fun q=>bad ⟨q.1,q.2.1,q.2.2 ys U⟩) H2 (s1.trans s2)
    clear hR
    have gd:kdOk kd/\un.ch≠none/\∀ ys,Up D.ns u ys->ys.length<=5:=⟨good.1,good.2.1,fun zs z=>by rw [<- U.det z]; exact good.2.2⟩
    refine zae fun R hR=>?_
    walk_at "rd"
    refine ⟨s,rfl,fun c3=>hR _ _ ?_,fun c3=>kx _ (zmw c1 hx hu gd c3) H2 (s1.trans s2)⟩
    clear hR
    have s12:=s1.trans s2
    have O2:=O.same s12
    clear hp ft dx fs O1 s1 s2
    refine zae fun R hR=>?_
    walk_at "rd"
    have post:¬ (kd=Str.ofString "leaf" /\ ∃ r:Int,rm = .int r/\r<0)->R [some (.ref D.p),some (.str x),some (.str u),some (.str kd),some (.int s),some rm] H2:=fun c4=>hR _ _ (by
      clear hR
      have k:=k (zpq c1 hx hu gd c3 c4)
      cases hc:un.ch with
      | none=>exact absurd hc gd.2.1
      | some c =>
      obtain ⟨dx,fs,hp,ft⟩:=O2.ex
      have N2:=O2.nd un uin
      obtain ⟨dn,fn,hnp,hft⟩:=N2.ex
      rw [hc] at hft
      have CS:=N2.ch c hc
      have cok:=W.cok un uin c hc
      have nx:shOf c.2.nm x=none:=by
        rw [Sw.sh_none,W.kid un uin c hc]
        intro z
        unfold kids at z
        obtain ⟨y,hy,e⟩:=List.mem_map.mp z
        exact fnd_none.mp hx (List.mem_map.mpr ⟨y,(List.mem_filter.mp hy).1,e⟩)
      have csz:=F.2 un uin c hc
      have fl:=F.1
      have kl:=W.kid_len uin hc
      obtain ⟨a,cs⟩:=c
      refine zae fun R hR=>?_
      have aft:∀ H3,Own a H2 H3->ChS c_Starts c_Rounds c_Members H3 a D.most (cs.put x s)->R [some (.ref D.p),some (.str x),some (.str u),some (.str kd),some (.int s),some rm] H3:=fun H3 ow C3=>hR _ _ (by
        clear hR
        have O3:=O2.chooser W.nn uin hc ow C3
        obtain ⟨d3,f3,hp3,ft3⟩:=O3.ex
        walk_at "rd"
        refine zap hp3 T.cl_Tree T.na_Tree_most ft3.mo ?_
        walk_at "rd"
        have b3:∀ {b o},H b=some o->∃ o',H3 b=some o':=fun {b o} e=>by
          by_cases q:b∈five a
          · exact (C3.at q).imp fun _ z=>z.1
          · exact ⟨o,ow.deed _ _ q (s12 _ _ e)⟩
        have n3:∀ {b},H3 b=none->H b=none:=fun {b} e=>by
          cases z:H b with
          | none=>rfl
          | some o=>obtain ⟨o',z'⟩:=b3 z; rw [e] at z'; cases z'
        have hx3:fndN (setN D.ns { un with ch:=some (a,cs.put x s) }) x=none:=by
          rw [zjc]
          split
          · rw [hx]; rfl
          · exact hx
        have fin:∀ (cho:Option (At5×CSt)) (H4:Hp),Same H3 H4->(∀ c,cho=some c->ChS c_Starts c_Rounds c_Members H4 c.1 D.most c.2/\∀ b∈five c.1,H3 b=none)->(kd=Str.ofString "leaf" -> cho=none)->(Inner kd->∃ a,cho=some (a,CSt.new (kdB kd)))->∀ y dy,H4 y=none->H4 dy=none ->
            spNI c_Node [V.ref y,V.str u,chV cho,rm] (upd (upd H4 dy (.own y)) y (.ins c_Node dy [])) (fun v H2=>v=V.non/\rFld K (Str.ofString "nodes") (V.ref D.p) H2 fun x3 H2=>∃ a,x3=V.ref a/\∃ x4,DPut H2 a (V.str x) (V.ref y) x4/\Q V.non x4) (fun v d H'=>E v d H'):=fun cho H4 s4 hch klf kin y dy hy hdy=>by
          refine ⟨y,dy,.str u,chV cho,rm,rfl,zab,fun ql fs H5 bt hq h1 h2 h3=>⟨rfl,?_⟩⟩
          obtain ⟨s5,N5,fd5,q4⟩:=NdOk.new (C:=(⟨c_Node,c_Starts,c_Rounds,c_Members,c_Node,c_Tree⟩:Cl)) (m:=D.most) (nm:=x) (ab:=some u) hy hdy bt hq h1 h2 h3 fun c e=>(hch c e).1
          have O5:=O3.same (s4.trans s5)
          obtain ⟨d5,f5,hp5,ft5⟩:=O5.ex
          have no4:∀ {b},H4 b=none->H3 b=none:=fun {b} e=>by
            cases z:H3 b with
            | none=>rfl
            | some o=>rw [s4 _ _ z] at e; cases e
          have fr:∀ b∈ND.foot ⟨x,y,ql,some u,cho,rm,none,[],[]⟩,H3 b=none:=fun b hb=>by
            unfold ND.foot at hb
            rcases List.mem_cons.mp hb with z | hb
            · rw [z]; exact no4 hy
            rcases List.mem_cons.mp hb with z | hb
            · rw [z]; exact no4 q4
            rcases List.mem_append.mp hb with z | z
            · cases cho with
              | none=>cases z
              | some c=>exact (hch c rfl).2 b z
            · cases z
          refine zap hp5 T.cl_Tree T.na_Tree_nodes ft5.no ?_
          refine ⟨_,rfl,_,DPut.k (k:=Sum.inr x) O5.hn (zfl (by rw [zvz]; unfold setN; rw [List.length_map]; omega)),?_⟩
          have e5:=zwa (n:=⟨x,y,ql,some u,cho,rm,none,[],[]⟩) hx3
          rw [e5]
          refine k un (a,cs) ⟨x,y,ql,some u,cho,rm,none,[],[]⟩ _ hu hc rfl rfl rfl rfl rfl rfl klf kin (fun b hb=>n3 (fr b hb)) (O3.snoc (s4.trans s5) N5 fd5 fr) fun b o nb e=>?_
          rw [zah (fun z=>nb (by rw [z]; exact List.mem_cons_of_mem _ (List.mem_cons_self ..)))]
          refine s5 _ _ (s4 _ _ (ow.deed _ _ (fun z=>nb (TD.mem_node uin ?_)) (s12 _ _ e)))
          unfold ND.foot
          rw [hc]
          exact List.mem_cons_of_mem _ (List.mem_cons_of_mem _ (List.mem_append.mpr (.inl z)))
        refine ⟨kd,D.most,rfl,W.m1.1,fun ik a' H4 s4 na C4 y dy hy hdy _=>fin (some (a',CSt.new (kdB kd))) H4 s4 (fun c e=>?_) (fun e=>?_) (fun _=>⟨a',rfl⟩) y dy hy hdy,fun nk y dy hy hdy _=>fin none H3 (Same.refl _) (fun c e=>by cases e) (fun _=>rfl) (fun z=>absurd z nk) y dy hy hdy⟩
        · cases e; exact ⟨C4,na⟩
        · subst e
          exact absurd ik (by decide +kernel))
      clear hR
      walk_at "rd"
      cases cs with
      | st nm tg gs ck ch N =>
        refine .inl ?_
        walk_at "rd"
        refine zap hp T.cl_Tree T.na_Tree_nodes ft.no ?_
        walk_at "rd"
        refine ⟨_,nd_at O2 hu,?_⟩
        refine zap hnp T.cl_Node T.na_Node_chooser hft.ch ?_
        have S:Sx c_Starts c_Members H2 a D.most nm tg gs ck ch N:=CS
        obtain ⟨dx',fs',pr,hp',ft',hr'⟩:=S.ex
        refine zbc hp' (ft'.no _ (by decide +kernel) (by decide +kernel) (by decide +kernel) (by decide +kernel) (by decide +kernel) (by decide +kernel)) ⟨a,D.most,nm,tg,gs,ck,ch,N,x,s,rfl,S,?_,fun z=>absurd nx z,fun _ z=>absurd c3 z,fun _ _ H3 ow S'=>aft H3 ow S'⟩
        have:N<=800:=csz
        omega
      | rd nm q rs tu ch =>
        refine .inr ?_
        walk_at "rd"
        refine zap hp T.cl_Tree T.na_Tree_nodes ft.no ?_
        walk_at "rd"
        refine ⟨_,nd_at O2 hu,?_⟩
        refine zap hnp T.cl_Node T.na_Node_chooser hft.ch ?_
        have S:Rx c_Rounds c_Members H2 a D.most nm q rs tu ch:=CS
        refine S.meth (by decide +kernel) ⟨a,D.most,nm,q,rs,tu,ch,x,s,rfl,S,cok.2,?_,fun z=>absurd nx z,fun _ z=>absurd c3 z,fun _ _ H3 ow S'=>aft H3 ow S'⟩
        have:nm.length<=D.ns.length:=kl
        omega)
    clear hR
    refine ite2 (fun c4=>ite2 (fun c5=>post fun q=>?_) fun c5=>?_) fun c4=>post fun q=>c4 q.1
    · obtain ⟨r,e,_⟩:=q.2
      rw [c5] at e; cases e
    · obtain ⟨r,e⟩:=hrm.resolve_left c5
      refine ⟨r,e,ite2 (fun c6=>rs_of (kx _ (zqh c1 hx hu gd c3 ⟨c4,r,e,c6⟩) H2 s12) T.xc_NoLength) fun c6=>post fun q=>?_⟩
      obtain ⟨r',e',h'⟩:=q.2
      rw [e] at e'; cases e'
      exact c6 h'
def spTW (cC:Addr) (C:Cl):Sp:=fun vs H Q E=>∃ (D:TD) (x:Str),vs = [.ref D.p,.str x]/\TrOk C H D/\D.Wf/\(x=road\/fndN D.ns x=none->Rs cC H E)/\(x≠road->∀ ys,Up D.ns x ys->∀ l H',Same H H'->H l=none->H' l=some (.lst (ys.reverse.tail.map V.str))->Q (.ref l) H')
theorem zqk (T:Txt K mg c_NoName c_Taken c_NoClass c_NoPlace c_NoShare c_NoLength c_Members c_Chooser c_Starts c_Rounds c_Node c_Tree):MethD P w K mg base (CXX P w) 2 c_Tree "way" ["self", "name"] [[]] (spTW c_NoClass (⟨c_Node,c_Starts,c_Rounds,c_Members,c_Node,c_Tree⟩:Cl)):=by
 have M_Tree_check_class:=zdg (P:=P) (w:=w) (base:=base) T
 have M_Tree_from_road:=zfo (P:=P) (w:=w) (base:=base) T
 refine T.me_Tree_way.okX (k:=1) zoe (fun vs H Q E h=>?_) (fun f cdv A outer s H vs Q E hr h=>?_)
 ·obtain ⟨D,x,rfl,_⟩:=h
  rfl
 ·obtain ⟨D,x,rfl,O,W,kx,k⟩:=h
  refine ⟨_,(zad (zav (zaw (dvs:=[]) M_Tree_check_class (by simp) T.cl_Tree (hr.mono (by decide)) passF (pv 0) (zaa (pv 1) zag))) (zaf (zar (zfw (zhj K rfl) (zaw (dvs:=[]) M_Tree_from_road (by simp) T.cl_Tree (hr.mono (by decide)) passF (pv 0) (zaa (pv 1) zag)) (zgs zak) ziq)))),?_⟩
  show tSeq _ _ _ [some (.ref D.p),some (.str x)] H
  obtain ⟨dx,fs,hp,ft⟩:=O.ex
  refine zae fun R hR=>?_
  walk_at "rd"
  refine zbc hp (ft.mis _ (by decide +kernel) (by decide +kernel) (by decide +kernel) (by decide +kernel) (by decide +kernel) (by decide +kernel)) ⟨D,x,rfl,O,fun c1 c2=>hR _ _ ?_,kx⟩
  cases hx:fndN D.ns x with
  | none=>exact absurd hx c2
  | some n =>
  obtain ⟨nin,ne⟩:=zbm hx
  obtain ⟨ys,U,yl⟩:=W.up n nin
  rw [ne] at U
  walk_at "rd"
  refine zbc hp (ft.mis _ (by decide +kernel) (by decide +kernel) (by decide +kernel) (by decide +kernel) (by decide +kernel) (by decide +kernel)) ⟨D,x,ys,rfl,O,U,by omega,fun l H1 s1 hl e=>?_⟩
  refine zmj (.of e) fun l2 hl2=>?_
  have yp:=U.pos
  have ec:cutV (ys.reverse.map V.str) (some 1) none=(ys.reverse.map V.str).drop 1:=zpr _ 1 (by rw [List.length_map,List.length_reverse]; omega)
  rw [ec]
  refine k c1 ys U l2 _ (s1.trans (zai hl2)) ?_ ?_
  ·cases z:H l2 with
   | none=>rfl
   | some o=>rw [s1 _ _ z] at hl2; cases hl2
  ·rw [zab,List.drop_one,List.map_tail]
def spTB (cC:Addr) (C:Cl):Sp:=fun vs H Q E=>∃ (D:TD) (x:Str),vs = [.ref D.p,.str x]/\TrOk C H D/\D.Wf/\(fndN D.ns x=none->Rs cC H E)/\(fndN D.ns x≠none->∀ l H',Same H H'->H l=none->H' l=some (.lst ((kids D.ns x).map V.str))->Q (.ref l) H')
theorem zng (T:Txt K mg c_NoName c_Taken c_NoClass c_NoPlace c_NoShare c_NoLength c_Members c_Chooser c_Starts c_Rounds c_Node c_Tree):MethD P w K mg base (CXX P w) 3 c_Tree "below" ["self", "name"] [[]] (spTB c_NoClass (⟨c_Node,c_Starts,c_Rounds,c_Members,c_Node,c_Tree⟩:Cl)):=by
 have M_Tree_check_class:=zdg (P:=P) (w:=w) (base:=base) T
 have M_Starts_names:=zgo (P:=P) (w:=w) (base:=base) T
 have M_Rounds_names:=zgp (P:=P) (w:=w) (base:=base) T
 refine T.me_Tree_below.okX (k:=2) sc_Tree_below (fun vs H Q E h=>?_) (fun f cdv A outer s H vs Q E hr h=>?_)
 ·obtain ⟨D,x,rfl,_⟩:=h
  rfl
 ·obtain ⟨D,x,rfl,O,W,kx,k⟩:=h
  refine ⟨_,(zad (ps_if (zau op_ne (pv 1) (zgd rfl T.mg_ROAD) (zba _)) (zaf (zav (zaw (dvs:=[]) M_Tree_check_class (by simp) T.cl_Tree (hr.mono (by decide)) passF (pv 0) (zaa (pv 1) zag)))) zaq) (zad (zbg (i:=2) sc_Tree_below.nd rfl (by first|left;rfl|right;rfl) (zas (zca (hu_of hr) (zas (pv 0) rfl) (pv 1) (fun _ _=>rfl)) rfl)) (zaf (zar (zsz (zau zil (pv 2) zdd (zba _)) (zea zag) (zpm (zeb (dvs:=[]) M_Starts_names (by simp) T.cl_Starts (hr.mono (by decide)) passF (pv 2)) (zeb (dvs:=[]) M_Rounds_names (by simp) T.cl_Rounds (hr.mono (by decide)) passF (pv 2)))))))),?_⟩
  show tSeq _ _ _ [some (.ref D.p),some (.str x),none] H
  obtain ⟨dx,fs,hp,ft⟩:=O.ex
  refine zae fun R hR=>?_
  have post:fndN D.ns x≠none->R [some (.ref D.p),some (.str x),none] H:=fun hx=>hR _ _ (by
   clear hR
   cases hn:fndN D.ns x with
   | none=>exact absurd hn hx
   | some n =>
   obtain ⟨nin,ne⟩:=zbm hn
   have N:=O.nd n nin
   obtain ⟨dn,fn,hnp,hft⟩:=N.ex
   have k:=k hx
   refine zae fun R hR=>?_
   walk_at "rd"
   refine zap hp T.cl_Tree T.na_Tree_nodes ft.no ?_
   walk_at "rd"
   refine ⟨_,nd_at O hn,?_⟩
   refine zap hnp T.cl_Node T.na_Node_chooser hft.ch (hR _ _ ?_)
   clear hR
   walk_at "rd"
   cases hc:n.ch with
   | none =>
    refine ite2 (fun _=>?_) fun z=>absurd rfl z
    intro l hl
    refine k l _ (zai hl) hl ?_
    rw [zab,<- ne,W.lf n nin hc]; rfl
   | some c =>
    refine ite2 (fun z=>by cases z) fun _=>?_
    have CS:=N.ch c hc
    have kd:=W.kid n nin c hc
    have fin:∀ l,H l=none->Q (.ref l) (upd H l (.lst (nmV c.2.nm))):=fun l hl=>by
     refine k l _ (zai hl) hl ?_
     rw [zab,<- ne,<- kd,List.map_map]; rfl
    obtain ⟨a,cs⟩:=c
    cases cs with
    | st nm tg gs ck ch N =>
     refine .inl ?_
     walk_at "rd"
     have S:Sx c_Starts c_Members H a D.most nm tg gs ck ch N:=CS
     obtain ⟨dx',fs',pr,hp',ft',hr'⟩:=S.ex
     exact zbc hp' (ft'.no _ (by decide +kernel) (by decide +kernel) (by decide +kernel) (by decide +kernel) (by decide +kernel) (by decide +kernel)) ⟨a,D.most,nm,tg,gs,ck,ch,N,rfl,S,fin⟩
    | rd nm q rs tu ch =>
     refine .inr ?_
     walk_at "rd"
     have S:Rx c_Rounds c_Members H a D.most nm q rs tu ch:=CS
     exact S.meth (by decide +kernel) ⟨a,D.most,nm,q,rs,tu,ch,rfl,S,fin⟩)
  clear hR
  walk_at "rd"
  refine ite2 (fun c1=>post ?_) fun c1=>?_
  ·subst c1
   obtain ⟨n,hn,_⟩:=W.rdN
   show fndN D.ns road≠none
   rw [hn]; simp
  ·exact zbc hp (ft.mis _ (by decide +kernel) (by decide +kernel) (by decide +kernel) (by decide +kernel) (by decide +kernel) (by decide +kernel)) ⟨D,x,rfl,O,fun _ c2=>post c2,fun q=>kx (q.resolve_left c1)⟩
def spTI (cL cP:Addr) (C:Cl):Sp:=fun vs H Q E=>∃ (x dx:Addr) (m:Int) (kd:Str),vs = [.ref x,.int m,.str kd]/\H x=some (.ins C.t dx [])/\(¬ (1<=m/\m<=1000000)->Rs cL H E)/\(1<=m/\m<=1000000->¬ Inner kd->Rs cP H E) /\
 (1<=m/\m<=1000000->Inner kd->∀ (pn pg:Addr) (n:ND) (a:At5) H',n = ⟨road,n.p,n.ql,none,some (a,CSt.new (kdB kd)),.non,none,[],[]⟩->But x H H'->(∀ b∈TD.foot ⟨x,pn,pg,m,0,0,0,[n],[],[]⟩,b=x\/H b=none)->TrOk C H' ⟨x,pn,pg,m,0,0,0,[n],[],[]⟩->Q .non H')
theorem zyf (T:Txt K mg c_NoName c_Taken c_NoClass c_NoPlace c_NoShare c_NoLength c_Members c_Chooser c_Starts c_Rounds c_Node c_Tree):MkD P w K mg base (CXX P w) 7 c_Tree ["self", "most", "kind"] [[],[V.str (Str.ofString "starts")]] (spTI c_NoLength c_NoPlace (⟨c_Node,c_Starts,c_Rounds,c_Members,c_Node,c_Tree⟩:Cl)):=by
 have D_check_most:=znf (P:=P) (w:=w) (base:=base) T
 have D_chooser_of:=zib (P:=P) (w:=w) (base:=base) T
 have K_Node:=zvb (P:=P) (w:=w) (base:=base) T
 refine T.in_Tree.okX (k:=6) zna (fun vs H Q E h=>?_) (fun f cdv A outer s H vs Q E hr h=>?_)
 ·obtain ⟨x,dx,m,kd,rfl,_⟩:=h
  rfl
 ·obtain ⟨x,dx,m,kd,rfl,hx,kl,kp,k⟩:=h
  obtain ⟨t_INNER_KINDS,h_INNER_KINDS,w_INNER_KINDS⟩:=T.mg_INNER_KINDS
  refine ⟨_,(zad (zav (zbb D_check_most (hr.mono (by decide)) rfl passF (zaa (pv 1) zag))) (zad (ps_if (zau (zmr K rfl) (pv 2) (zkt (v:=.ref t_INNER_KINDS) rfl h_INNER_KINDS rfl) rfl) (zaf (zcn K rfl rfl zeq (zer T.ex_NoPlace T.kp_NoPlace rfl T.mg_NoPlace (zaa zbd zag)))) zaq) (zad (zcr (pv 0) (pv 1) rfl) (zad (zcr (pv 0) (zvt (zto (zgd rfl T.mg_ROAD) (zhk (dvs:=[V.non]) K_Node (by simp) (hr.mono (by decide)) passF rfl T.mg_Node (zaa zdd (zaa (zbb D_chooser_of (hr.mono (by decide)) rfl passF (zaa (pv 2) (zaa (pv 1) zag))) zag))) zvs) rfl rfl (by intro z; cases z) (by decide)) rfl) (zad (zcr (pv 0) zak rfl) (zad (zcr (pv 0) zak rfl) (zad (zcr (pv 0) zak rfl) (zaf (zcr (pv 0) (zea zag) rfl))))))))),?_⟩
  show tSeq _ _ _ [some (.ref x),some (.int m),some (.str kd)] H
  refine zae fun R hR=>?_
  walk_at "rd"
  refine ⟨m,rfl,fun c1=>hR _ _ ?_,kl⟩
  clear hR
  refine zae fun R hR=>?_
  walk_at "rd"
  refine ⟨_,_,rfl,.inr (w_INNER_KINDS H),rfl,rfl,_,rfl,?_⟩
  rw [zpo,if_pos rfl]
  by_cases c2:Inner kd
  case neg =>
   rw [if_pos (by simp [c2])]
   exact rs_of (kp c1 c2) T.xc_NoPlace
  rw [if_neg (by simp [c2])]
  refine hR _ _ ?_
  clear hR
  have k:=k c1 c2
  have l1:=zan (fs:=[]) (f := "most") (v:=.int m)
  simp only [List.length_nil] at l1
  refine zae fun R hR=>?_
  walk_at "rd"
  refine zcs hx T.cl_Tree T.na_Tree_most (by simp) (hR _ _ ?_)
  clear hR
  have h1:upd H x (.ins c_Tree dx (putF "most" (.int m) [])) x=some (.ins c_Tree dx (putF "most" (.int m) [])):=zab
  have b1:But x H (upd H x (.ins c_Tree dx (putF "most" (.int m) []))):=zhu
  have n1:∀ {b},upd H x (.ins c_Tree dx (putF "most" (.int m) [])) b=none->H b=none:=fun {b} e=>by
   by_cases z:b=x
   ·rw [z,zab] at e; cases e
   ·rw [zah z] at e; exact e
  show tSeq _ _ _ _ (upd H x (.ins c_Tree dx (putF "most" (.int m) [])))
  generalize upd H x (.ins c_Tree dx (putF "most" (.int m) []))=H1 at h1 b1 n1 ⊢
  refine zae fun R hR=>?_
  walk_at "rd"
  unfold tDisp
  intro pn hpn
  unfold zmp zmp
  walk_at "rd"
  have s2:=zai (o:=.dK []) hpn
  have h2:upd H1 pn (.dK []) pn=some (.dK []):=zab
  generalize upd H1 pn (.dK [])=H2 at s2 h2 ⊢
  refine ⟨kd,m,rfl,c1.1,fun _ a H3 s3 na C3 y dy hy hdy _=>?_,fun z=>absurd c2 z⟩
  refine ⟨y,dy,.non,.ref a.p,.non,rfl,zab,fun ql fs H4 bt hq h4 f4 q4=>⟨rfl,?_⟩⟩
  obtain ⟨s4,N4,fd4,q3⟩:=NdOk.new (C:=(⟨c_Node,c_Starts,c_Rounds,c_Members,c_Node,c_Tree⟩:Cl)) (m:=m) (nm:=road) (ab:=none) (ch:=some (a,CSt.new (kdB kd))) (rm:=.non) hy hdy bt hq h4 f4 q4 fun c e=>by cases e; exact C3
  refine ⟨s4 _ _ (s3 _ _ h2),[((Sum.inr road:Key),V.ref y)],rfl,by simp,?_⟩
  have fr2:∀ b∈ND.foot ⟨road,y,ql,none,some (a,CSt.new (kdB kd)),.non,none,[],[]⟩,H2 b=none:=fun b hb=>by
   have no3:∀ {b},H3 b=none->H2 b=none:=fun {b} e=>by
    cases z:H2 b with
    | none=>rfl
    | some o=>rw [s3 _ _ z] at e; cases e
   unfold ND.foot at hb
   rcases List.mem_cons.mp hb with z | hb
   ·rw [z]; exact no3 hy
   rcases List.mem_cons.mp hb with z | hb
   ·rw [z]; exact no3 q3
   rcases List.mem_append.mp hb with z | z
   ·exact na b z
   ·cases z
  have s14:Same H1 H4:=s2.trans (s3.trans s4)
  have no2:∀ {b},H2 b=none->H1 b=none:=fun {b} e=>by
   cases z:H1 b with
   | none=>rfl
   | some o=>rw [s2 _ _ z] at e; cases e
  have xpn:x≠pn:=zao h1 hpn
  have h5:upd H4 pn (.dK (zgm [] [((Sum.inr road:Key),V.ref y)])) pn=some (.dK (ndK [⟨road,y,ql,none,some (a,CSt.new (kdB kd)),.non,none,[],[]⟩])):=zab
  have x5:upd H4 pn (.dK (zgm [] [((Sum.inr road:Key),V.ref y)])) x=some (.ins c_Tree dx (putF "most" (.int m) [])):=by rw [zah xpn]; exact s14 _ _ h1
  have k5:∀ b o,b≠pn->H4 b=some o->upd H4 pn (.dK (zgm [] [((Sum.inr road:Key),V.ref y)])) b=some o:=fun b o q e=>by rw [zah q]; exact e
  have o5:∀ b,upd H4 pn (.dK (zgm [] [((Sum.inr road:Key),V.ref y)])) b=none->H4 b=none:=fun b e=>by
   by_cases z:b=pn
   ·rw [z,zab] at e; cases e
   ·rw [zah z] at e; exact e
  have pn4:=s4 _ _ (s3 _ _ h2)
  generalize upd H4 pn (.dK (zgm [] [((Sum.inr road:Key),V.ref y)]))=H5 at h5 x5 k5 o5 ⊢
  have l2:=zan (fs:=putF "most" (.int m) []) (f := "nodes") (v:=.ref pn)
  have l3:=zan (fs:=putF "nodes" (.ref pn) (putF "most" (.int m) [])) (f := "time") (v:=.int 0)
  have l4:=zan (fs:=putF "time" (.int 0) (putF "nodes" (.ref pn) (putF "most" (.int m) []))) (f := "free") (v:=.int 0)
  have l5:=zan (fs:=putF "free" (.int 0) (putF "time" (.int 0) (putF "nodes" (.ref pn) (putF "most" (.int m) [])))) (f := "counted") (v:=.int 0)
  refine zcs x5 T.cl_Tree T.na_Tree_nodes (by omega) (hR _ _ ?_)
  clear hR
  refine zae fun R hR=>?_
  walk_at "rd"
  refine zcs zab T.cl_Tree T.na_Tree_time (by omega) (hR _ _ ?_)
  clear hR
  rw [zfd]
  refine zae fun R hR=>?_
  walk_at "rd"
  refine zcs zab T.cl_Tree T.na_Tree_free (by omega) (hR _ _ ?_)
  clear hR
  rw [zfd]
  refine zae fun R hR=>?_
  walk_at "rd"
  refine zcs zab T.cl_Tree T.na_Tree_counted (by omega) (hR _ _ ?_)
  clear hR
  rw [zfd]
  walk_at "rd"
  intro pg hpg
  have xg:pg≠x:=fun z=>by rw [z,zab] at hpg; cases hpg
  have g5:H5 pg=none:=by rw [zah xg] at hpg; exact hpg
  have g4:=o5 _ g5
  have ng:pn≠pg:=zao pn4 g4
  refine zcs (by rw [zah (Ne.symm xg),zab]) T.cl_Tree T.na_Tree_gone (by omega) ?_
  have kp:∀ {b o},b≠x->b≠pg->H5 b=some o->upd (upd (upd H5 x (.ins c_Tree dx (putF "counted" (.int 0) (putF "free" (.int 0) (putF "time" (.int 0) (putF "nodes" (.ref pn) (putF "most" (.int m) []))))))) pg (.lst [])) x (.ins c_Tree dx (putF "gone" (.ref pg) (putF "counted" (.int 0) (putF "free" (.int 0) (putF "time" (.int 0) (putF "nodes" (.ref pn) (putF "most" (.int m) []))))))) b=some o:=fun {b o} q1 q2 e=>by rw [zah q1,zah q2,zah q1]; exact e
  have hg:upd (upd (upd H5 x (.ins c_Tree dx (putF "counted" (.int 0) (putF "free" (.int 0) (putF "time" (.int 0) (putF "nodes" (.ref pn) (putF "most" (.int m) []))))))) pg (.lst [])) x (.ins c_Tree dx (putF "gone" (.ref pg) (putF "counted" (.int 0) (putF "free" (.int 0) (putF "time" (.int 0) (putF "nodes" (.ref pn) (putF "most" (.int m) []))))))) pg=some (.lst []):=by rw [zah xg,zab]
  have hf:upd (upd (upd H5 x (.ins c_Tree dx (putF "counted" (.int 0) (putF "free" (.int 0) (putF "time" (.int 0) (putF "nodes" (.ref pn) (putF "most" (.int m) []))))))) pg (.lst [])) x (.ins c_Tree dx (putF "gone" (.ref pg) (putF "counted" (.int 0) (putF "free" (.int 0) (putF "time" (.int 0) (putF "nodes" (.ref pn) (putF "most" (.int m) []))))))) x=some (.ins c_Tree dx (putF "gone" (.ref pg) (putF "counted" (.int 0) (putF "free" (.int 0) (putF "time" (.int 0) (putF "nodes" (.ref pn) (putF "most" (.int m) []))))))):=zab
  generalize upd (upd (upd H5 x (.ins c_Tree dx (putF "counted" (.int 0) (putF "free" (.int 0) (putF "time" (.int 0) (putF "nodes" (.ref pn) (putF "most" (.int m) []))))))) pg (.lst [])) x (.ins c_Tree dx (putF "gone" (.ref pg) (putF "counted" (.int 0) (putF "free" (.int 0) (putF "time" (.int 0) (putF "nodes" (.ref pn) (putF "most" (.int m) [])))))))=Hf at kp hg hf ⊢
  have bx:∀ {b},H2 b=none->b≠x:=fun {b} e z=>by rw [z,s2 _ _ h1] at e; cases e
  have bn:∀ {b},H2 b=none->b≠pn:=fun {b} e z=>by rw [z,h2] at e; cases e
  have k4:∀ {b o},b≠x->b≠pn->H4 b=some o->Hf b=some o:=fun {b o} q1 q2 e=>kp q1 (zao e g4) (k5 b o q2 e)
  refine k pn pg ⟨road,y,ql,none,some (a,CSt.new (kdB kd)),.non,none,[],[]⟩ a Hf rfl (fun b o nb e=>?_) (fun b hb=>?_) ⟨⟨dx,_,hf,FTr.mk0 ..⟩,kp xpn.symm ng h5,fun z hz=>?_,hg,.nil,?_⟩
  ·have e1:=b1 b o nb e
   exact k4 nb (zao e1 hpn) (s14 _ _ e1)
  ·unfold TD.foot at hb
   rcases List.mem_cons.mp hb with z | hb
   ·exact .inl z
   rcases List.mem_cons.mp hb with z | hb
   ·rw [z]; exact .inr (n1 hpn)
   rcases List.mem_cons.mp hb with z | hb
   ·rw [z]
    refine .inr (n1 ?_)
    cases z:H1 pg with
    | none=>rfl
    | some o=>rw [s14 _ _ z] at g4; cases g4
   obtain ⟨w,hw,z⟩:=List.mem_flatMap.mp hb
   rw [List.mem_singleton.mp hw] at z
   exact .inr (n1 (no2 (fr2 b z)))
  ·rw [List.mem_singleton.mp hz]
   refine N4.keep fun b o hb e=>?_
   rcases hb with q | ⟨xs,q⟩
   ·exact k4 (bx (fr2 b q)) (bn (fr2 b q)) e
   ·exact k4 (fun w=>by rw [w,s14 _ _ h1] at q; cases q) (fun w=>by rw [w,pn4] at q; cases q) e
  ·show (x :: pn :: pg :: ([⟨road,y,ql,none,some (a,CSt.new (kdB kd)),.non,none,[],[]⟩]:List ND).flatMap ND.foot).Nodup
   rw [List.flatMap_cons,List.flatMap_nil,List.append_nil]
   simp only [List.nodup_cons,List.mem_cons,not_or]
   refine ⟨⟨xpn,Ne.symm xg,fun z=>bx (fr2 _ z) rfl⟩,⟨ng,fun z=>bn (fr2 _ z) rfl⟩,fun z=>?_,fd4⟩
   obtain ⟨o,ho,_⟩:=N4.at z
   rw [g4] at ho; cases ho
theorem zlo {l D:Addr} {ps:List Addr} {gs:List D2} {H:Hp} {Q:VK} {te:TE} (pr:D2->Int) (R:Gos H l ps gs) (hD:H D=none) (ng:ps.length<=900) (ht:∀ (g:D2) (H':Hp) (Z:VK),Z (.int (pr g)) H'->te [some (.int g.1),some (.int g.2)] H' Z) (k:∀ H',Same H H'->H' D=some (.lst ((gs.map pr).map V.int))->Q (.ref D) H'):CompG (Itl K l) (gTup K 2 (gCons (gName 0) (gCons (gName 1) gNil))) tYes te D [none,none] (upd H D (.lst [])) Q:=by
 have lg:=R.r.len
 refine zit (xs:=ps.map V.ref) (fun i τ H'=>(∃ v0 v1,τ = [v0,v1])/\Same H H'/\H' D=some (.lst (((gs.take i).map pr).map V.int))) ⟨⟨none,none,rfl⟩,zai hD,zab⟩ (fun i τ H' _ h=>.of (h.2.1 _ _ R.hl)) ?_ ?_
 ·rintro i x τ H' hx ⟨⟨v0,v1,rfl⟩,s',hDl⟩
  rw [List.getElem?_map] at hx
  cases e:ps[i]? with
  | none=>rw [e] at hx; cases hx
  | some p =>
   rw [e] at hx
   cases hx
   obtain ⟨g,hg,hp⟩:=R.r.get e
   refine ⟨p,_,rfl,.of (s' _ _ hp),rfl,_,_,rfl,_,_,rfl,rfl,?_⟩
   show tYes [some (.int g.1),some (.int g.2)] H' _
   unfold tYes
   refine ht g H' _ ?_
   refine ⟨_,hDl,zfl ?_,⟨_,_,rfl⟩,fun b o e=>?_,?_⟩
   ·rw [List.length_map,List.length_map,List.length_take]; omega
   ·rw [zah (zao e hD)]; exact s' _ _ e
   ·rw [zab,zfm hg,List.map_append,List.map_append]; rfl
 ·rintro τ H' ⟨_,s',hDl⟩
  rw [List.length_map,lg,List.take_length] at hDl
  exact k H' s' hDl
def hasK (n:ND):Bool:=match n.ch with
 | none=>false
 | some c=>decide (0<c.2.nm.length)
def spHC (C:Cl):Sp:=fun vs H Q _=>∃ (n:ND) (m:Int),vs = [.ref n.p]/\NdOk C H m n/\∀ H',Same H H'->Q (.bl (hasK n)) H'
theorem zhd (T:Txt K mg c_NoName c_Taken c_NoClass c_NoPlace c_NoShare c_NoLength c_Members c_Chooser c_Starts c_Rounds c_Node c_Tree):MethD P w K mg base (CXX P w) 3 c_Node "has_children" ["self"] [[]] (spHC (⟨c_Node,c_Starts,c_Rounds,c_Members,c_Node,c_Tree⟩:Cl)):=by
 have M_Starts_names:=zgo (P:=P) (w:=w) (base:=base) T
 have M_Rounds_names:=zgp (P:=P) (w:=w) (base:=base) T
 refine T.me_Node_has_children.okN (k:=2) zgg (fun vs H Q E h=>?_) (fun f cdv A outer s H vs Q E hr h=>?_)
 ·obtain ⟨n,m,rfl,_⟩:=h
  rfl
 ·obtain ⟨n,m,rfl,N,k⟩:=h
  refine ⟨_,(zaf (zar (zij (zep zim (zas (pv 0) rfl) zdd (zba _)) (zia (zep op_gt (zbq (zfe K rfl) rfl T.no_len boot_len (zaa (zpm (zeb (dvs:=[]) M_Starts_names (by simp) T.cl_Starts (hr.mono (by decide)) passN (zas (pv 0) rfl)) (zeb (dvs:=[]) M_Rounds_names (by simp) T.cl_Rounds (hr.mono (by decide)) passN (zas (pv 0) rfl))) zag)) zak (zba _)))))),?_⟩
  show tRet _ _ [some (.ref n.p)] H
  obtain ⟨dn,fn,hnp,hft⟩:=N.ex
  walk_at "rd"
  refine zap hnp T.cl_Node T.na_Node_chooser hft.ch ?_
  unfold hasK at k
  cases hc:n.ch with
  | none =>
   rw [hc] at k
   exact ite2 (fun _=>k H (Same.refl _)) fun z=>absurd rfl z
  | some c =>
   rw [hc] at k hft
   have CS:=N.ch c hc
   refine ite2 (fun z=>by cases z) fun _=>?_
   have fin:∀ l,H l=none->rLen K [.ref l] (upd H l (.lst (nmV c.2.nm))) fun x H1=>∃ i,x=V.int i/\Q (.bl (decide (0<i))) H1:=fun l hl=>by
    refine zmi (.of zab) ⟨_,rfl,?_⟩
    have e:(nmV c.2.nm).length=c.2.nm.length:=List.length_map _
    rw [e]
    have:=k _ (zai (o:=.lst (nmV c.2.nm)) hl)
    have this:Q (.bl (decide (0<c.2.nm.length))) (upd H l (.lst (nmV c.2.nm))):=this
    have d:decide (0<c.2.nm.length)=decide ((0:Int)<(c.2.nm.length:Int)):=by
     rw [Bool.eq_iff_iff,decide_eq_true_iff,decide_eq_true_iff]; omega
    rw [d] at this
    exact this
   obtain ⟨a,cs⟩:=c
   cases cs with
   | st nm tg gs ck ch N' =>
    refine .inl ?_
    walk_at "rd"
    refine zap hnp T.cl_Node T.na_Node_chooser hft.ch ?_
    have S:Sx c_Starts c_Members H a m nm tg gs ck ch N':=CS
    obtain ⟨dx',fs',pr,hp',ft',hr'⟩:=S.ex
    exact zbc hp' (ft'.no _ (by decide +kernel) (by decide +kernel) (by decide +kernel) (by decide +kernel) (by decide +kernel) (by decide +kernel)) ⟨a,m,nm,tg,gs,ck,ch,N',rfl,S,fin⟩
   | rd nm q rs tu ch =>
    refine .inr ?_
    walk_at "rd"
    refine zap hnp T.cl_Node T.na_Node_chooser hft.ch ?_
    have S:Rx c_Rounds c_Members H a m nm q rs tu ch:=CS
    exact S.meth (by decide +kernel) ⟨a,m,nm,q,rs,tu,ch,rfl,S,fin⟩
def roomB (rm:V) (qu:List D2) (len:Int):Bool:=match rm with
 | .int r=>decide ((qu.map (·.2)).sum+len<=r)
 | _=>true
def spHR (C:Cl):Sp:=fun vs H Q _=>∃ (n:ND) (m len:Int),vs = [.ref n.p,.int len]/\NdOk C H m n/\n.ps.length<=900/\(n.rm = .non\/∃ r,n.rm = .int r)/\∀ H',Same H H'->Q (.bl (roomB n.rm n.qu len)) H'
theorem zhe (T:Txt K mg c_NoName c_Taken c_NoClass c_NoPlace c_NoShare c_NoLength c_Members c_Chooser c_Starts c_Rounds c_Node c_Tree):MethD P w K mg base (CXX P w) 1 c_Node "has_room_for" ["self", "length"] [[]] (spHR (⟨c_Node,c_Starts,c_Rounds,c_Members,c_Node,c_Tree⟩:Cl)):=by
 refine T.me_Node_has_room_for.okN (k:=0) zgh (fun vs H Q E h=>?_) (fun f cdv A outer s H vs Q E hr h=>?_)
 ·obtain ⟨n,m,len,rfl,_⟩:=h
  rfl
 ·obtain ⟨n,m,len,rfl,N,nl,hrm,k⟩:=h
  refine ⟨_,(zaf (zar (pe_or (zep zil (zas (pv 0) rfl) zdd (zba _)) (zia (zep op_le (pe_op zew (zbq (zmh K rfl rfl) rfl T.no_sum boot_sum (zaa (pe_lc ["number", "each"] [] rfl (by with_unfolding_all rfl) (by decide +kernel) rfl (by decide +kernel) (by exact True.intro) (by with_unfolding_all rfl) True.intro (zet K rfl (zas (pv 0) rfl)) (fun _ _ _=>(zgu (n:=2) K rfl rfl (zct (zbs (i:=0) (show (["number", "each"]:List Str).Nodup from by decide +kernel) rfl (by first|left;rfl|right;rfl)) (zct (zbs (i:=1) (show (["number", "each"]:List Str).Nodup from by decide +kernel) rfl (by first|left;rfl|right;rfl)) zgr)))) (fun _ _ _=>zes) (fun _ _ _=>(pv 1))) zag)) (pv 1)) (zas (pv 0) rfl) (zba _)))))),?_⟩
  show tRet _ _ [some (.ref n.p),some (.int len)] H
  obtain ⟨dn,fn,hnp,hft⟩:=N.ex
  walk_at "rd"
  refine zap hnp T.cl_Node T.na_Node_room hft.rm ?_
  rcases hrm with z | ⟨r,z⟩
  ·rw [z] at k ⊢
   exact ite2 (fun _=>k H (Same.refl _)) fun y=>absurd rfl y
  ·rw [z] at k hft ⊢
   refine ite2 (fun y=>by cases y) fun _=>?_
   refine zap hnp T.cl_Node T.na_Node_queue hft.qu ?_
   walk_at "rd"
   refine ⟨⟨_,.of N.qu.hl⟩,fun D hD=>?_⟩
   refine zlo (·.2) N.qu hD nl (fun g H' Z q=>⟨_,rfl,q⟩) fun H' s' hDl=>?_
   refine ⟨D,_,rfl,.of hDl,_,rfl,?_⟩
   refine zap (s' _ _ hnp) T.cl_Node T.na_Node_room hft.rm ⟨_,rfl,?_⟩
   exact k H' s'
def spCL (cC cP:Addr) (C:Cl):Sp:=fun vs H Q E=>∃ (D:TD) (x:Str),vs = [.ref D.p,.str x]/\TrOk C H D/\(x=road\/fndN D.ns x=none->Rs cC H E)/\(x≠road->∀ n,fndN D.ns x=some n->n.ch≠none->Rs cP H E)/\(x≠road->∀ n,fndN D.ns x=some n->n.ch=none->Q .non H)
theorem zfi (T:Txt K mg c_NoName c_Taken c_NoClass c_NoPlace c_NoShare c_NoLength c_Members c_Chooser c_Starts c_Rounds c_Node c_Tree):MethD P w K mg base (CXX P w) 2 c_Tree "check_leaf" ["self", "name"] [[]] (spCL c_NoClass c_NoPlace (⟨c_Node,c_Starts,c_Rounds,c_Members,c_Node,c_Tree⟩:Cl)):=by
 have M_Tree_check_class:=zdg (P:=P) (w:=w) (base:=base) T
 refine T.me_Tree_check_leaf.okX (k:=1) zhn (fun vs H Q E h=>?_) (fun f cdv A outer s H vs Q E hr h=>?_)
 ·obtain ⟨D,x,rfl,_⟩:=h
  rfl
 ·obtain ⟨D,x,rfl,O,kc,kp,k⟩:=h
  refine ⟨_,(zad (zav (zaw (dvs:=[]) M_Tree_check_class (by simp) T.cl_Tree (hr.mono (by decide)) passF (pv 0) (zaa (pv 1) zag))) (zaf (ps_if (zau zim (zas (zca (hu_of hr) (zas (pv 0) rfl) (pv 1) (fun _ _=>rfl)) rfl) zdd (zba _)) (zaf (zcn K rfl rfl zeq (zer T.ex_NoPlace T.kp_NoPlace rfl T.mg_NoPlace (zaa zbd zag)))) zaq))),?_⟩
  show tSeq _ _ _ [some (.ref D.p),some (.str x)] H
  obtain ⟨dx,fs,hp,ft⟩:=O.ex
  refine zae fun R hR=>?_
  walk_at "rd"
  refine zbc hp (ft.mis _ (by decide +kernel) (by decide +kernel) (by decide +kernel) (by decide +kernel) (by decide +kernel) (by decide +kernel)) ⟨D,x,rfl,O,fun c1 c2=>hR _ _ ?_,kc⟩
  cases hx:fndN D.ns x with
  | none=>exact absurd hx c2
  | some n =>
  obtain ⟨dn,fn,hnp,hft⟩:=(O.nd n (zbm hx).1).ex
  walk_at "rd"
  refine zap hp T.cl_Tree T.na_Tree_nodes ft.no ?_
  walk_at "rd"
  refine ⟨_,nd_at O hx,?_⟩
  refine zap hnp T.cl_Node T.na_Node_chooser hft.ch ?_
  cases hc:n.ch with
  | none=>exact k c1 n hx hc
  | some c=>exact rs_of (kp c1 n hx (by rw [hc]; simp)) T.xc_NoPlace
def qnumV (n:ND):List V:=(n.qu.map (·.1)).map V.int
def spWt (cC cP:Addr) (C:Cl):Sp:=fun vs H Q E=>∃ (D:TD) (x:Str),vs = [.ref D.p,.str x]/\TrOk C H D/\(∀ n∈D.ns,n.ps.length<=900)/\(x=road\/fndN D.ns x=none->Rs cC H E)/\(x≠road->∀ n,fndN D.ns x=some n->n.ch≠none->Rs cP H E)/\(x≠road->∀ n,fndN D.ns x=some n->n.ch=none->∀ l H',Same H H'->H l=none->H' l=some (.lst (qnumV n))->Q (.ref l) H')
theorem zkg (T:Txt K mg c_NoName c_Taken c_NoClass c_NoPlace c_NoShare c_NoLength c_Members c_Chooser c_Starts c_Rounds c_Node c_Tree):MethD P w K mg base (CXX P w) 3 c_Tree "waiting" ["self", "name"] [[]] (spWt c_NoClass c_NoPlace (⟨c_Node,c_Starts,c_Rounds,c_Members,c_Node,c_Tree⟩:Cl)):=by
 have M_Tree_check_leaf:=zfi (P:=P) (w:=w) (base:=base) T
 refine T.me_Tree_waiting.okX (k:=2) zjp (fun vs H Q E h=>?_) (fun f cdv A outer s H vs Q E hr h=>?_)
 ·obtain ⟨D,x,rfl,_⟩:=h
  rfl
 ·obtain ⟨D,x,rfl,O,ql,kc,kp,k⟩:=h
  refine ⟨_,(zad (zav (zaw (dvs:=[]) M_Tree_check_leaf (by simp) T.cl_Tree (hr.mono (by decide)) passF (pv 0) (zaa (pv 1) zag))) (zaf (zar (pe_lc ["number", "length"] [] rfl (by with_unfolding_all rfl) (by decide +kernel) rfl (by decide +kernel) (by exact True.intro) (by with_unfolding_all rfl) True.intro (zet K rfl (zas (zca (hu_of hr) (zas (pv 0) rfl) (pv 1) (fun _ _=>rfl)) rfl)) (fun _ _ _=>(zgu (n:=2) K rfl rfl (zct (zbs (i:=0) (show (["number", "length"]:List Str).Nodup from by decide +kernel) rfl (by first|left;rfl|right;rfl)) (zct (zbs (i:=1) (show (["number", "length"]:List Str).Nodup from by decide +kernel) rfl (by first|left;rfl|right;rfl)) zgr)))) (fun _ _ _=>zes) (fun _ _ _=>(pv 0)))))),?_⟩
  show tSeq _ _ _ [some (.ref D.p),some (.str x)] H
  obtain ⟨dx,fs,hp,ft⟩:=O.ex
  refine zae fun R hR=>?_
  walk_at "rd"
  refine zbc hp (ft.mis _ (by decide +kernel) (by decide +kernel) (by decide +kernel) (by decide +kernel) (by decide +kernel) (by decide +kernel)) ⟨D,x,rfl,O,kc,kp,fun c1 n hx hc=>hR _ _ ?_⟩
  have nin:=(zbm hx).1
  have N:=O.nd n nin
  obtain ⟨dn,fn,hnp,hft⟩:=N.ex
  walk_at "rd"
  refine zap hp T.cl_Tree T.na_Tree_nodes ft.no ?_
  walk_at "rd"
  refine ⟨_,nd_at O hx,?_⟩
  refine zap hnp T.cl_Node T.na_Node_queue hft.qu ?_
  walk_at "rd"
  refine ⟨⟨_,.of N.qu.hl⟩,fun L hL=>?_⟩
  exact zlo (·.1) N.qu hL (ql n nin) (fun g H' Z q=>⟨_,rfl,q⟩) fun H' s' hDl=>k c1 n hx hc L H' s' hL hDl
def spNow (C:Cl):Sp:=fun vs H Q _=>∃ (D:TD),vs = [.ref D.p]/\TrOk C H D/\Q (.int D.tm) H
theorem zql (T:Txt K mg c_NoName c_Taken c_NoClass c_NoPlace c_NoShare c_NoLength c_Members c_Chooser c_Starts c_Rounds c_Node c_Tree):MethD P w K mg base (CXX P w) 1 c_Tree "now" ["self"] [[]] (spNow (⟨c_Node,c_Starts,c_Rounds,c_Members,c_Node,c_Tree⟩:Cl)):=by
 refine T.me_Tree_now.okN (k:=0) zod (fun vs H Q E h=>?_) (fun f cdv A outer s H vs Q E hr h=>?_)
 ·obtain ⟨D,rfl,_⟩:=h
  rfl
 ·obtain ⟨D,rfl,O,k⟩:=h
  refine ⟨_,(zaf (zar (zas (pv 0) rfl))),?_⟩
  show tRet _ _ [some (.ref D.p)] H
  obtain ⟨dx,fs,hp,ft⟩:=O.ex
  walk_at "rd"
  exact zap hp T.cl_Tree T.na_Tree_time ft.ti k
def zyg (C:Cl):Sp:=fun vs H Q _=>∃ (D:TD) (x y:Str) (n u:ND),vs = [.ref D.p,.str x]/\TrOk C H D/\fndN D.ns x=some n/\n.ab=some y/\fndN D.ns y=some u/\Q (chV u.ch) H
theorem zhf (T:Txt K mg c_NoName c_Taken c_NoClass c_NoPlace c_NoShare c_NoLength c_Members c_Chooser c_Starts c_Rounds c_Node c_Tree):MethD P w K mg base (CXX P w) 1 c_Tree "chooser_over" ["self", "name"] [[]] (zyg (⟨c_Node,c_Starts,c_Rounds,c_Members,c_Node,c_Tree⟩:Cl)):=by
 refine T.me_Tree_chooser_over.okN (k:=0) zgi (fun vs H Q E h=>?_) (fun f cdv A outer s H vs Q E hr h=>?_)
 ·obtain ⟨D,x,y,n,u,rfl,_⟩:=h
  rfl
 ·obtain ⟨D,x,y,n,u,rfl,O,hx,ha,hu,k⟩:=h
  refine ⟨_,(zaf (zar (zas (zca (hu_of hr) (zas (pv 0) rfl) (zas (zca (hu_of hr) (zas (pv 0) rfl) (pv 1) (fun _ _=>rfl)) rfl) (fun _ _=>rfl)) rfl))),?_⟩
  show tRet _ _ [some (.ref D.p),some (.str x)] H
  obtain ⟨dx,fs,hp,ft⟩:=O.ex
  obtain ⟨dn,fn,hnp,hft⟩:=(O.nd n (zbm hx).1).ex
  obtain ⟨du,fu,hup,huf⟩:=(O.nd u (zbm hu).1).ex
  walk_at "rd"
  refine zap hp T.cl_Tree T.na_Tree_nodes ft.no ?_
  walk_at "rd"
  refine zap hp T.cl_Tree T.na_Tree_nodes ft.no ?_
  walk_at "rd"
  refine ⟨_,nd_at O hx,?_⟩
  refine zap hnp T.cl_Node T.na_Node_above hft.ab ?_
  rw [ha]
  refine ⟨_,nd_at O hu,?_⟩
  exact zap hup T.cl_Node T.na_Node_chooser huf.ch k
def TD.come (D:TD) (n:ND) (q:Addr) (len:Int):TD:={ D with ct:=D.ct+1,ns:=setN D.ns { n with ps:=n.ps++[q],qu:=n.qu++[(D.ct,len)] } }
def zyh (cC cP cL:Addr) (C:Cl):Sp:=fun vs H Q E=>∃ (D:TD) (x:Str) (len:Int),vs = [.ref D.p,.str x,.int len]/\TrOk C H D/\D.Wf/\(∀ n∈D.ns,n.ps.length<=890/\(n.rm = .non\/∃ r,n.rm = .int r))/\(x=road\/fndN D.ns x=none->Rs cC H E)/\(x≠road->∀ n,fndN D.ns x=some n->n.ch≠none->Rs cP H E)/\(x≠road->∀ n,fndN D.ns x=some n->n.ch=none->(¬ (1<=len/\len<=D.most)->Rs cL H E)/\(1<=len/\len<=D.most->(roomB n.rm n.qu len=false->∀ H',Same H H'->Q .non H')/\(roomB n.rm n.qu len=true->∀ q H',H q=none->TrOk C H' (TD.come D n q len)->Deed D.foot H H'->Q (.int D.ct) H')))
theorem zof (T:Txt K mg c_NoName c_Taken c_NoClass c_NoPlace c_NoShare c_NoLength c_Members c_Chooser c_Starts c_Rounds c_Node c_Tree):MethD P w K mg base (CXX P w) 3 c_Tree "come" ["self", "name", "length"] [[]] (zyh c_NoClass c_NoPlace c_NoLength (⟨c_Node,c_Starts,c_Rounds,c_Members,c_Node,c_Tree⟩:Cl)):=by
 have M_Tree_check_leaf:=zfi (P:=P) (w:=w) (base:=base) T
 have M_Node_has_room_for:=zhe (P:=P) (w:=w) (base:=base) T
 refine T.me_Tree_come.okX (k:=2) sc_Tree_come (fun vs H Q E h=>?_) (fun f cdv A outer s H vs Q E hr h=>?_)
 ·obtain ⟨D,x,len,rfl,_⟩:=h
  rfl
 ·obtain ⟨D,x,len,rfl,O,W,ql,kc,kp,k⟩:=h
  refine ⟨_,(zad (zav (zaw (dvs:=[]) M_Tree_check_leaf (by simp) T.cl_Tree (hr.mono (by decide)) passF (pv 0) (zaa (pv 1) zag))) (zad (ps_if (zii (zku op_le op_le zak (pv 2) (zas (pv 0) rfl))) (zaf (zcn K rfl rfl zeq (zer T.ex_NoLength T.kp_NoLength rfl T.mg_NoLength (zaa zbd zag)))) zaq) (zad (ps_if (zii (zhz (zaw (dvs:=[]) M_Node_has_room_for (by simp) T.cl_Node (hr.mono (by decide)) passF (zca (hu_of hr) (zas (pv 0) rfl) (pv 1) (fun _ _=>rfl)) (zaa (pv 2) zag)))) (zaf (zar zdd)) zaq) (zad (zbg (i:=3) sc_Tree_come.nd rfl (by first|left;rfl|right;rfl) (zas (pv 0) rfl)) (zad (zcr (pv 0) (pe_op zew (pv 3) zak) rfl) (zad (zav (pe_bm PySem.F.plainAttrs_list PySem.F.slot_list_append PySem.F.type_list_append zen (zas (zca (hu_of hr) (zas (pv 0) rfl) (pv 1) (fun _ _=>rfl)) rfl) (zaa (zdh (zaa (pv 3) (zaa (pv 2) zag))) zag))) (zaf (zar (pv 3))))))))),?_⟩
  show tSeq _ _ _ [some (.ref D.p),some (.str x),some (.int len),none] H
  obtain ⟨dx,fs,hp,ft⟩:=O.ex
  refine zae fun R hR=>?_
  walk_at "rd"
  refine zbc hp (ft.mis _ (by decide +kernel) (by decide +kernel) (by decide +kernel) (by decide +kernel) (by decide +kernel) (by decide +kernel)) ⟨D,x,rfl,O,kc,kp,fun c1 n hx hc=>hR _ _ ?_⟩
  clear hR
  obtain ⟨kl,k⟩:=k c1 n hx hc
  obtain ⟨nin,ne⟩:=zbm hx
  have N:=O.nd n nin
  obtain ⟨dn,fn,hnp,hft⟩:=N.ex
  obtain ⟨ql1,ql2⟩:=ql n nin
  refine zae fun R hR=>?_
  walk_at "rd"
  have post:1<=len/\len<=D.most->R [some (.ref D.p),some (.str x),some (.int len),none] H:=fun c2=>hR _ _ (by
   clear hR
   obtain ⟨kn,k⟩:=k c2
   refine zae fun R hR=>?_
   walk_at "rd"
   refine zap hp T.cl_Tree T.na_Tree_nodes ft.no ?_
   walk_at "rd"
   refine ⟨_,nd_at O hx,?_⟩
   refine zbc hnp (hft.no _ (by decide +kernel) (by decide +kernel) (by decide +kernel) (by decide +kernel) (by decide +kernel)) ⟨n,D.most,len,rfl,N,by omega,ql2,fun H1 s1=>?_⟩
   cases hb:roomB n.rm n.qu len with
   | false =>
    walk_at "rd"
    exact kn hb H1 s1
   | true =>
    walk_at "rd"
    refine hR _ _ ?_
    clear hR
    have k:=k hb
    have O1:=O.same s1
    obtain ⟨dx,fs,hp,ft⟩:=O1.ex
    refine zae fun R hR=>?_
    walk_at "rd"
    refine zap hp T.cl_Tree T.na_Tree_counted ft.co (hR _ _ ?_)
    clear hR
    refine zae fun R hR=>?_
    walk_at "rd"
    refine zcs hp T.cl_Tree T.na_Tree_counted (by have:=ft.len; omega) (hR _ _ ?_)
    clear hR
    have O2:=O1.field hp (ft.put_co (ct':=D.ct+1))
    have kp2:∀ b o,b≠D.p->H1 b=some o->upd H1 D.p (.ins c_Tree dx (putF "counted" (.int (D.ct+1)) fs)) b=some o:=fun b o q e=>by rw [zah q]; exact e
    have n2:∀ b,upd H1 D.p (.ins c_Tree dx (putF "counted" (.int (D.ct+1)) fs)) b=none->H b=none:=fun b e=>by
     by_cases z:b=D.p
     ·rw [z,zab] at e; cases e
     ·rw [zah z] at e
      cases y:H b with
      | none=>rfl
      | some o=>rw [s1 _ _ y] at e; cases e
    refine (show tSeq _ _ _ [some (.ref D.p),some (.str x),some (.int len),some (.int D.ct)] (upd H1 D.p (.ins c_Tree dx (putF "counted" (.int (D.ct+1)) fs))) from ?_)
    generalize upd H1 D.p (.ins c_Tree dx (putF "counted" (.int (D.ct+1)) fs))=H2 at O2 kp2 n2 ⊢
    obtain ⟨dx,fs,hp,ft⟩:=O2.ex
    have N2:=O2.nd n nin
    obtain ⟨dn,fn,hnp,hft⟩:=N2.ex
    refine zae fun R hR=>?_
    walk_at "rd"
    refine zap hp T.cl_Tree T.na_Tree_nodes ft.no ?_
    walk_at "rd"
    refine ⟨_,nd_at (D:={ D with ct:=D.ct+1 }) O2 hx,?_⟩
    refine zap hnp T.cl_Node T.na_Node_queue hft.qu ?_
    walk_at "rd"
    refine ⟨zgl N2.qu.hl,fun q hq=>?_⟩
    have s3:=zai (o:=.tup [.int D.ct,.int len]) hq
    have O3:=O2.same s3
    have r3:Duos (upd H2 q (.tup [.int D.ct,.int len])) (n.ps++[q]) (n.qu++[(D.ct,len)]):=zez (F:=fun p (g:D2)=>upd H2 q (.tup [.int D.ct,.int len]) p=some (.tup (d2 g))) zab (O3.nd n nin).qu.r
    have O4:=O3.queue W.nn nin r3
    rw [List.map_append] at O4
    refine zix (s3 _ _ N2.qu.hl) (by rw [List.length_map]; omega) (hR _ _ ?_)
    clear hR
    walk_at "rd"
    refine k q _ (n2 q hq) O4 fun b o nb e=>?_
    have b1:b≠D.p:=fun z=>nb (z ▸ List.mem_cons_self ..)
    have b2:b≠n.ql:=fun z=>nb (TD.mem_node nin (z ▸ List.mem_cons_of_mem _ (List.mem_cons_self ..)))
    have e2:=kp2 b o b1 (s1 _ _ e)
    rw [zah b2]
    exact s3 _ _ e2)
  clear hR
  refine ite2 (fun a1=>zap hp T.cl_Tree T.na_Tree_most ft.mo ⟨_,rfl,?_⟩) fun a1=>rs_of (kl fun z=>a1 z.1) T.xc_NoLength
  exact ite2 (fun a2=>post ⟨a1,a2⟩) fun a2=>rs_of (kl fun z=>a2 z.2) T.xc_NoLength
theorem zsu {D:TD} (W:D.Wf) {n:ND} (nin:n∈D.ns):hasK n=decide (kids D.ns n.nm≠[]):=by
 unfold hasK
 cases hc:n.ch with
 | none=>rw [W.lf n nin hc]; rfl
 | some c =>
  show decide (0<c.2.nm.length) = _
  rw [<- W.kid n nin c hc,Bool.eq_iff_iff,decide_eq_true_iff,decide_eq_true_iff,Ne,List.map_eq_nil_iff,<- List.length_eq_zero_iff]
  omega
def zwi (cC cP:Addr) (C:Cl):Sp:=fun vs H Q E=>∃ (D:TD) (x:Str),vs = [.ref D.p,.str x]/\TrOk C H D/\D.Wf/\D.fit/\(∀ n∈D.ns,n.ps.length<=900)/\(x=road\/fndN D.ns x=none->Rs cC H E)/\(x≠road->fndN D.ns x≠none->kids D.ns x≠[]->∀ H',Same H H'->Rs cP H' E)/\(x≠road->kids D.ns x = []->∀ n un c l H',fndN D.ns x=some n->n.ab=some un.nm->un∈D.ns->un.ch=some c->TrOk C H' (D.take un c x)->Deed D.foot H H'->H l=none->l ∉ (D.take un c x).foot->H' l=some (.lst (qnumV n))->Q (.ref l) H')
theorem zog (T:Txt K mg c_NoName c_Taken c_NoClass c_NoPlace c_NoShare c_NoLength c_Members c_Chooser c_Starts c_Rounds c_Node c_Tree):MethD P w K mg base (CXX P w) 4 c_Tree "take" ["self", "name"] [[]] (zwi c_NoClass c_NoPlace (⟨c_Node,c_Starts,c_Rounds,c_Members,c_Node,c_Tree⟩:Cl)):=by
 have M_Tree_check_class:=zdg (P:=P) (w:=w) (base:=base) T
 have M_Node_has_children:=zhd (P:=P) (w:=w) (base:=base) T
 have M_Tree_chooser_over:=zhf (P:=P) (w:=w) (base:=base) T
 have M_Starts_take:=zll (P:=P) (w:=w) (base:=base) T
 have M_Rounds_take:=zlm (P:=P) (w:=w) (base:=base) T
 refine T.me_Tree_take.okX (k:=3) znb (fun vs H Q E h=>?_) (fun f cdv A outer s H vs Q E hr h=>?_)
 ·obtain ⟨D,x,rfl,_⟩:=h
  rfl
 ·obtain ⟨D,x,rfl,O,W,F,ql,kc,kp,k⟩:=h
  refine ⟨_,(zad (zav (zaw (dvs:=[]) M_Tree_check_class (by simp) T.cl_Tree (hr.mono (by decide)) passF (pv 0) (zaa (pv 1) zag))) (zad (ps_if (zhz (zeb (dvs:=[]) M_Node_has_children (by simp) T.cl_Node (hr.mono (by decide)) passF (zca (hu_of hr) (zas (pv 0) rfl) (pv 1) (fun _ _=>rfl)))) (zaf (zcn K rfl rfl zeq (zer T.ex_NoPlace T.kp_NoPlace rfl T.mg_NoPlace (zaa zbd zag)))) zaq) (zad (zav (zpm (zaw (dvs:=[]) M_Starts_take (by simp) T.cl_Starts (hr.mono (by decide)) passF (zaw (dvs:=[]) M_Tree_chooser_over (by simp) T.cl_Tree (hr.mono (by decide)) passF (pv 0) (zaa (pv 1) zag)) (zaa (pv 1) zag)) (zaw (dvs:=[]) M_Rounds_take (by simp) T.cl_Rounds (hr.mono (by decide)) passF (zaw (dvs:=[]) M_Tree_chooser_over (by simp) T.cl_Tree (hr.mono (by decide)) passF (pv 0) (zaa (pv 1) zag)) (zaa (pv 1) zag)))) (zaf (zar (pe_lc ["number", "length"] [] rfl (by with_unfolding_all rfl) (by decide +kernel) rfl (by decide +kernel) (by exact True.intro) (by with_unfolding_all rfl) True.intro (zet K rfl (zas (zga (zas (pv 0) rfl) (pv 1) ⟨rfl,rfl,rfl,rfl⟩) rfl)) (fun _ _ _=>(zgu (n:=2) K rfl rfl (zct (zbs (i:=0) (show (["number", "length"]:List Str).Nodup from by decide +kernel) rfl (by first|left;rfl|right;rfl)) (zct (zbs (i:=1) (show (["number", "length"]:List Str).Nodup from by decide +kernel) rfl (by first|left;rfl|right;rfl)) zgr)))) (fun _ _ _=>zes) (fun _ _ _=>(pv 0)))))))),?_⟩
  show tSeq _ _ _ [some (.ref D.p),some (.str x)] H
  obtain ⟨dx,fs,hp,ft⟩:=O.ex
  refine zae fun R hR=>?_
  walk_at "rd"
  refine zbc hp (ft.mis _ (by decide +kernel) (by decide +kernel) (by decide +kernel) (by decide +kernel) (by decide +kernel) (by decide +kernel)) ⟨D,x,rfl,O,fun c1 c2=>hR _ _ ?_,kc⟩
  clear hR
  cases hx:fndN D.ns x with
  | none=>exact absurd hx c2
  | some n =>
  obtain ⟨nin,ne⟩:=zbm hx
  have N:=O.nd n nin
  obtain ⟨dn,fn,hnp,hft⟩:=N.ex
  refine zae fun R hR=>?_
  walk_at "rd"
  refine zap hp T.cl_Tree T.na_Tree_nodes ft.no ?_
  walk_at "rd"
  refine ⟨_,nd_at O hx,?_⟩
  refine zbc hnp (hft.no _ (by decide +kernel) (by decide +kernel) (by decide +kernel) (by decide +kernel) (by decide +kernel)) ⟨n,D.most,rfl,N,fun H1 s1=>⟨_,rfl,?_⟩⟩
  rw [zsu W nin,ne]
  refine ite2 (fun c3=>rs_of (kp c1 c2 (of_decide_eq_true c3) H1 s1) T.xc_NoPlace) fun c3=>hR _ _ ?_
  clear hR
  have nk:kids D.ns x = []:=Decidable.not_not.mp fun z=>c3 (decide_eq_true z)
  have k:=k c1 nk
  obtain ⟨y,u,ha,hu,uc⟩:∃ y u,n.ab=some y/\fndN D.ns y=some u/\u.ch≠none:=by
   cases h:n.ab with
   | none=>exact absurd (ne ▸ W.ra n nin h) c1
   | some y =>
    obtain ⟨ys,U,_⟩:=W.up n nin
    cases U with
    | top q1 q2=>rw [ne,hx] at q1; cases q1; rw [h] at q2; cases q2
    | on q1 q2 q3 =>
     rw [ne,hx] at q1; cases q1
     rw [h] at q2; cases q2
     obtain ⟨u,hu⟩:=q3.fnd
     refine ⟨y,u,rfl,hu,fun z=>?_⟩
     obtain ⟨uin,ue⟩:=zbm hu
     have:=W.lf u uin z
     have w:n.nm∈kids D.ns u.nm:=List.mem_map.mpr ⟨n,List.mem_filter.mpr ⟨nin,decide_eq_true (by rw [h,ue])⟩,rfl⟩
     rw [this] at w; cases w
  obtain ⟨uin,ue⟩:=zbm hu
  cases hc:u.ch with
  | none=>exact absurd hc uc
  | some c =>
  have O1:=O.same s1
  have CS:=(O1.nd u uin).ch c hc
  have cok:=W.cok u uin c hc
  have kl:=W.kid_len uin hc
  have fl:=F.1
  have shx:shOf c.2.nm x≠none:=by
   rw [Sw.sh_mem,W.kid u uin c hc]
   exact List.mem_map.mpr ⟨n,List.mem_filter.mpr ⟨nin,decide_eq_true (by rw [ha,ue])⟩,ne⟩
  have nu:u.nm≠x:=fun z=>by
   have w:n.nm∈kids D.ns u.nm:=List.mem_map.mpr ⟨n,List.mem_filter.mpr ⟨nin,decide_eq_true (by rw [ha,ue])⟩,rfl⟩
   rw [z,nk] at w; cases w
  obtain ⟨dx,fs,hp,ft⟩:=O1.ex
  obtain ⟨a,cs⟩:=c
  refine zae fun R hR=>?_
  have aft:∀ H2,Own a H1 H2->ChS c_Starts c_Rounds c_Members H2 a D.most (cs.take x)->R [some (.ref D.p),some (.str x)] H2:=fun H2 ow C2=>hR _ _ (by
   clear hR
   have O2:=O1.chooser W.nn uin hc ow C2
   obtain ⟨dx,fs,hp,ft⟩:=O2.ex
   have hx2:fndN (setN D.ns { u with ch:=some (a,cs.take x) }) x=some n:=by
    rw [zjc,if_neg (fun z=>nu (show u.nm=x from z.symm))]; exact hx
   walk_at "rd"
   (try simp only [L2.tDPop1])
   walk_at "rd"
   refine zap hp T.cl_Tree T.na_Tree_nodes ft.no ?_
   (try simp only [L2.tDPop1])
   walk_at "rd"
   refine ⟨.inl ⟨_,.inl O2.hn⟩,_,O2.hn,Sum.inr x,rfl,.ref n.p,by rw [zhw,hx2]; rfl,?_⟩
   rw [ztx]
   have O3:=O2.drop x
   have n2in:=(zbm hx2).1
   have N2:=O2.nd n n2in
   have kp3:∀ b o,b≠D.pn->H2 b=some o->upd H2 D.pn (.dK (ndK (zbx (setN D.ns { u with ch:=some (a,cs.take x) }) x))) b=some o:=fun b o q e=>by rw [zah q]; exact e
   have tp:∀ {b xs},H2 b=some (.tup xs)->b≠D.pn:=fun {b xs} e z=>by rw [z] at e; have h:=O2.hn; rw [show H2 D.pn = _ from h] at e; cases e
   have N3:NdOk (⟨c_Node,c_Starts,c_Rounds,c_Members,c_Node,c_Tree⟩:Cl) (upd H2 D.pn (.dK (ndK (zbx (setN D.ns { u with ch:=some (a,cs.take x) }) x)))) D.most n:=N2.keep fun b o hb e=>kp3 b o (hb.elim (fun q=>(O2.apart n2in q).2.1) fun ⟨xs,q⟩=>tp q) e
   have n3:∀ b,upd H2 D.pn (.dK (ndK (zbx (setN D.ns { u with ch:=some (a,cs.take x) }) x))) b=none->H b=none:=fun b e=>by
    by_cases z:b=D.pn
    ·rw [z,zab] at e; cases e
    ·rw [zah z] at e
     cases y:H b with
     | none=>rfl
     | some o =>
      by_cases q:b∈five a
      ·obtain ⟨o',ho,_⟩:=C2.at q
       rw [ho] at e; cases e
      ·rw [ow.deed _ _ q (s1 _ _ y)] at e; cases e
   have dd:Deed D.foot H (upd H2 D.pn (.dK (ndK (zbx (setN D.ns { u with ch:=some (a,cs.take x) }) x)))):=fun b o nb e=>by
    refine kp3 b o (fun z=>nb (by rw [z]; exact List.mem_cons_of_mem _ (List.mem_cons_self ..))) (ow.deed _ _ (fun z=>nb (TD.mem_node uin ?_)) (s1 _ _ e))
    unfold ND.foot
    rw [hc]
    exact List.mem_cons_of_mem _ (List.mem_cons_of_mem _ (List.mem_append.mpr (.inl z)))
   refine (show rFld K (Str.ofString "queue") (V.ref n.p) (upd H2 D.pn (.dK (ndK (zbx (setN D.ns { u with ch:=some (a,cs.take x) }) x)))) _ from ?_)
   generalize upd H2 D.pn (.dK (ndK (zbx (setN D.ns { u with ch:=some (a,cs.take x) }) x)))=H3 at O3 N3 n3 dd ⊢
   obtain ⟨dn,fn,hnp,hft⟩:=N3.ex
   refine zap hnp T.cl_Node T.na_Node_queue hft.qu ?_
   walk_at "rd"
   refine ⟨⟨_,.of N3.qu.hl⟩,fun L hL=>?_⟩
   exact zlo (·.1) N3.qu hL (ql n nin) (fun g H' Z q=>⟨_,rfl,q⟩) fun H' s' hDl=>k n u (a,cs) L H' hx (by rw [ha,ue]) uin hc (O3.same s') (fun b o nb e=>s' _ _ (dd b o nb e)) (n3 L hL) (O3.free hL) hDl)
  clear hR
  walk_at "rd"
  cases cs with
  | st nm tg gs ck ch N' =>
   refine .inl ?_
   walk_at "rd"
   refine zbc hp (ft.mis _ (by decide +kernel) (by decide +kernel) (by decide +kernel) (by decide +kernel) (by decide +kernel) (by decide +kernel)) ⟨D,x,y,n,u,rfl,O1,hx,ha,hu,?_⟩
   rw [hc]
   have S:Sx c_Starts c_Members H1 a D.most nm tg gs ck ch N':=CS
   obtain ⟨dx',fs',pr,hp',ft',hr'⟩:=S.ex
   obtain ⟨t,g,e1,e2⟩:=cok.2 x shx
   exact zbc hp' (ft'.no _ (by decide +kernel) (by decide +kernel) (by decide +kernel) (by decide +kernel) (by decide +kernel) (by decide +kernel)) ⟨a,D.most,nm,tg,gs,ck,ch,N',x,rfl,S,fun z=>absurd z shx,fun _=>⟨t,g,e1,e2,fun H2 ow S'=>aft H2 ow S'⟩⟩
  | rd nm q rs tu ch =>
   refine .inr ?_
   walk_at "rd"
   refine zbc hp (ft.mis _ (by decide +kernel) (by decide +kernel) (by decide +kernel) (by decide +kernel) (by decide +kernel) (by decide +kernel)) ⟨D,x,y,n,u,rfl,O1,hx,ha,hu,?_⟩
   rw [hc]
   have S:Rx c_Rounds c_Members H1 a D.most nm q rs tu ch:=CS
   have kl:nm.length<=D.ns.length:=kl
   exact S.meth (by decide +kernel) ⟨a,D.most,nm,q,rs,tu,ch,x,rfl,S,cok.2,by omega,cok.1.ok,fun z=>absurd z shx,fun _ H2 ow S'=>aft H2 ow S'⟩
def spGo (C:Cl):Sp:=fun vs H Q _=>∃ (D:TD),vs = [.ref D.p]/\TrOk C H D/\D.gs.length<=900/\∀ l ps H',Same H H'->H l=none->H' l=some (.lst (ps.map V.ref))->Paired (fun p g=>H' p=some (.tup (d3V g))) ps D.gs->(∀ p∈ps,H p=none)->Q (.ref l) H'
theorem zlp (T:Txt K mg c_NoName c_Taken c_NoClass c_NoPlace c_NoShare c_NoLength c_Members c_Chooser c_Starts c_Rounds c_Node c_Tree):MethD P w K mg base (CXX P w) 1 c_Tree "goings" ["self"] [[]] (spGo (⟨c_Node,c_Starts,c_Rounds,c_Members,c_Node,c_Tree⟩:Cl)):=by
 refine T.me_Tree_goings.okN (k:=0) zka (fun vs H Q E h=>?_) (fun f cdv A outer s H vs Q E hr h=>?_)
 ·obtain ⟨D,rfl,_⟩:=h
  rfl
 ·obtain ⟨D,rfl,O,gl,k⟩:=h
  refine ⟨_,(zaf (zar (pe_lc ["start", "number", "name"] [] rfl (by with_unfolding_all rfl) (by decide +kernel) rfl (by decide +kernel) (by exact True.intro) (by with_unfolding_all rfl) True.intro (zet K rfl (zas (pv 0) rfl)) (fun _ _ _=>(zgu (n:=3) K rfl rfl (zct (zbs (i:=0) (show (["start", "number", "name"]:List Str).Nodup from by decide +kernel) rfl (by first|left;rfl|right;rfl)) (zct (zbs (i:=1) (show (["start", "number", "name"]:List Str).Nodup from by decide +kernel) rfl (by first|left;rfl|right;rfl)) (zct (zbs (i:=2) (show (["start", "number", "name"]:List Str).Nodup from by decide +kernel) rfl (by first|left;rfl|right;rfl)) zgr))))) (fun _ _ _=>zes) (fun _ _ _=>(zdh (zaa (pv 0) (zaa (pv 1) (zaa (pv 2) zag)))))))),?_⟩
  show tRet _ _ [some (.ref D.p)] H
  obtain ⟨dx,fs,hp,ft⟩:=O.ex
  have lg:=O.gr.length
  walk_at "rd"
  refine zap hp T.cl_Tree T.na_Tree_gone ft.go ?_
  walk_at "rd"
  refine ⟨⟨_,.of O.go⟩,fun L hL=>?_⟩
  show CompG _ _ _ _ L [none,none,none] _ _
  refine zit (xs:=D.gp.map V.ref) (fun i τ H'=>(∃ v0 v1 v2,τ = [v0,v1,v2])/\Same H H'/\∃ ps,H' L=some (.lst ((ps:List Addr).map V.ref))/\Paired (fun p g=>H' p=some (.tup (d3V g))) ps (D.gs.take i)/\∀ p∈ps,H p=none) ⟨⟨none,none,none,rfl⟩,zai hL,[],zab,.nil,fun p hp=>absurd hp List.not_mem_nil⟩ (fun i τ H' _ h=>.of (h.2.1 _ _ O.go)) ?_ ?_
  ·rintro i x τ H' hx ⟨⟨v0,v1,v2,rfl⟩,s',ps,hDl,pr,nw⟩
   rw [List.getElem?_map] at hx
   cases e:D.gp[i]? with
   | none=>rw [e] at hx; cases hx
   | some p =>
    rw [e] at hx
    cases hx
    obtain ⟨g,hg,hgp⟩:=zgb O.gr e
    refine ⟨p,_,rfl,.of (s' _ _ hgp),rfl,_,_,rfl,_,_,rfl,_,_,rfl,rfl,?_⟩
    simp only [tYes,if_true]
    walk_at "rd"
    intro q hq
    have s2:=zai (o:=.tup [.int g.1,.int g.2.1,.str g.2.2]) hq
    have nL:L≠q:=zao hDl hq
    have lp:=pr.length
    refine ⟨_,s2 _ _ hDl,zfl ?_,fun b o e=>?_,ps++[q],?_,?_,fun p hp=>?_⟩
    ·rw [List.length_map,lp,List.length_take]; omega
    ·rw [zah (zao e hL)]; exact s2 _ _ (s' _ _ e)
    ·rw [zab,List.map_append]; rfl
    ·rw [zfm hg]
     refine zez (F:=fun p g=>upd (upd H' q (.tup [.int _,.int _,.str _])) L _ p=some (.tup (d3V g))) ?_ (zds (fun a b z=>?_) pr)
     ·rw [zah (Ne.symm nL)]; exact zab
     ·have:a≠L:=fun y=>by rw [y,hDl] at z; cases z
      rw [zah this]; exact s2 _ _ z
    ·rcases List.mem_append.mp hp with z | z
     ·exact nw p z
     ·rw [List.mem_singleton.mp z]
      cases y:H q with
      | none=>rfl
      | some o=>rw [s' _ _ y] at hq; cases hq
  ·rintro τ H' ⟨_,s',ps,hDl,pr,nw⟩
   rw [List.length_map,lg,List.take_length] at pr
   exact k L ps H' s' hL hDl pr nw
theorem pickV {K:PySem.W.Frag} {H:Hp} {t:Addr} {i:Int} {Q:VK} (xs:List V) (h0:0<=i) (h1:i<xs.length) (k:∀ v∈xs,Q v (upd H t (.lst xs))):rIxL K (.ref t) (.int i) (upd H t (.lst xs)) Q:=by
 have e:=zht (xs:=xs) (j:=i.toNat) (v:=xs[i.toNat]'(by omega)) (List.getElem?_eq_getElem (by omega))
 rw [Int.toNat_of_nonneg h0] at e
 exact zmg (.of zab) e (k _ (List.getElem_mem _))
theorem zwj (xs:List V) (lo hi:Nat):(cutV xs (some (lo:Int)) (some (hi:Int))).length<=hi-lo:=by
 unfold cutV
 rw [HT.sIx_nat,HT.sIx_nat,List.length_take]
 omega
def PutOk (C:Cl) (D:TD) (x u kd:Str) (s:Int) (rm:V) (H H':Hp) (D':TD):Prop:=∃ (un:ND) (c:At5×CSt) (n:ND),D'=D.put un c s n/\fndN D.ns u=some un/\un.ch=some c/\n.nm=x/\n.ab=some u/\n.rm=rm/\n.bk=none/\n.ps = []/\n.qu = []/\(kd=Str.ofString "leaf" -> n.ch=none)/\(Inner kd->∃ a,n.ch=some (a,CSt.new (kdB kd)))/\(∀ b∈n.foot,H b=none)/\TrOk C H' D'/\Deed D.foot H H'
theorem zwk {D:TD} {x u kd:Str} {s:Int} {rm:V} (h:dueP D x u kd s rm=none):zec x/\fndN D.ns x=none/\(∃ n,fndN D.ns u=some n/\kdOk kd/\n.ch≠none/\∀ ys,Up D.ns u ys->ys.length<=5)/\(1<=s/\s<=1000000):=by
 by_cases c1:zec x
 case neg=>rw [zpp c1] at h; cases h
 cases hx:fndN D.ns x with
 | some v=>rw [zmu c1 (by rw [hx]; simp)] at h; cases h
 | none =>
 cases hu:fndN D.ns u with
 | none=>rw [zsp c1 hx hu] at h; cases h
 | some n =>
 by_cases c2:kdOk kd/\n.ch≠none/\∀ ys,Up D.ns u ys->ys.length<=5
 case neg=>rw [zmv c1 hx hu c2] at h; cases h
 by_cases c3:1<=s/\s<=1000000
 case neg=>rw [zmw c1 hx hu c2 c3] at h; cases h
 exact ⟨c1,rfl,⟨n,rfl,c2⟩,c3⟩
theorem zps {x:Str} (h:zec x):PyData.strOk x=true/\x.length<=8:=by
 refine ⟨?_,h.1.2⟩
 rw [zyb]
 intro c hc
 have:∀ c∈lets.cps.toList,c<1114112:=by decide +kernel
 exact this c (h.2 c hc)
theorem PutOk.wf {C:Cl} {D D':TD} {x u kd:Str} {s:Int} {rm:V} {H H':Hp} (h:PutOk C D x u kd s rm H H' D') (W:D.Wf) (d:dueP D x u kd s rm=none):D'.Wf:=by
 obtain ⟨un,c,n,rfl,hu,hc,h1,h2,h3,h4,h5,h6,h7,h8,h9,h10,h11⟩:=h
 obtain ⟨nok,hx,⟨n',hu',ok,_,dp⟩,sh⟩:=zwk d
 rw [hu] at hu'; cases hu'
 obtain ⟨uin,une⟩:=zbm hu
 have nx:shOf c.2.nm x=none:=by
  rw [Sw.sh_none,W.kid un uin c hc]
  intro z
  unfold kids at z
  obtain ⟨y,hy,e⟩:=List.mem_map.mp z
  exact fnd_none.mp hx (List.mem_map.mpr ⟨y,(List.mem_filter.mp hy).1,e⟩)
 have so:=zps nok
 subst h1
 refine W.put uin hc rfl ((W.cok un uin c hc).put nx sh.1 sh.2 so.1) hx (by rw [h2,une]) (fun ys U=>dp ys (by rw [<- une]; exact U)) (fun d hd=>?_) so
 rcases ok with z | z
 ·rw [h7 z] at hd; cases hd
 ·obtain ⟨a,e⟩:=h8 z
  rw [e] at hd; cases hd
  exact ⟨CSt.nm_new _,CSt.Ok.new W.m1.1 _⟩
theorem zfc {ns:List ND} {n y:ND} (h:y∈setN ns n):y=n\/(y∈ns/\y.nm≠n.nm):=by
 unfold setN at h
 obtain ⟨z,hz,q⟩:=List.mem_map.mp h
 split at q
 ·exact .inl q.symm
 ·rename_i k
  exact .inr ⟨q ▸ hz,q ▸ k⟩
theorem PutOk.foot {C:Cl} {D D':TD} {x u kd:Str} {s:Int} {rm:V} {H H':Hp} (h:PutOk C D x u kd s rm H H' D'):∀ b∈D'.foot,b∈D.foot\/H b=none:=by
 obtain ⟨un,c,n,rfl,hu,hc,h1,h2,h3,h4,h5,h6,h7,h8,h9,h10,h11⟩:=h
 intro b hb
 obtain ⟨uin,une⟩:=zbm hu
 unfold TD.foot at hb
 rcases List.mem_cons.mp hb with z | hb
 ·exact .inl (z ▸ List.mem_cons_self ..)
 rcases List.mem_cons.mp hb with z | hb
 ·exact .inl (z ▸ List.mem_cons_of_mem _ (List.mem_cons_self ..))
 rcases List.mem_cons.mp hb with z | hb
 ·exact .inl (z ▸ List.mem_cons_of_mem _ (List.mem_cons_of_mem _ (List.mem_cons_self ..)))
 obtain ⟨y,hy,z⟩:=List.mem_flatMap.mp hb
 rcases List.mem_append.mp hy with hy | hy
 ·rcases zfc hy with q | q
  ·left
   refine TD.mem_node uin ?_
   rw [q] at z
   unfold ND.foot at z ⊢
   rw [hc]; exact z
  ·exact .inl (TD.mem_node q.1 z)
 ·rw [List.mem_singleton.mp hy] at z
  exact .inr (h9 b z)
theorem PutOk.len {C:Cl} {D D':TD} {x u kd:Str} {s:Int} {rm:V} {H H':Hp} (h:PutOk C D x u kd s rm H H' D'):D'.ns.length=D.ns.length+1:=by
 obtain ⟨un,c,n,rfl,_⟩:=h
 show (setN D.ns _++[n]).length = _
 rw [List.length_append]
 unfold setN
 rw [List.length_map]; rfl
theorem zvc (c:CSt) (x:Str) (s:Int):(c.put x s).sz<=c.sz+3:=by
 cases c with
 | st=>exact Nat.le_refl _
 | rd nm q rs tu ch =>
  show (nm++[(x,s)]).length<=nm.length+3
  rw [List.length_append]; simp
theorem PutOk.full {C:Cl} {D D':TD} {x u kd:Str} {s:Int} {rm:V} {H H':Hp} (h:PutOk C D x u kd s rm H H' D') (ok:kdOk kd) (F:D.full) (l:D.ns.length<60):D'.full:=by
 have ln:=h.len
 obtain ⟨un,c,n,rfl,hu,hc,h1,h2,h3,h4,h5,h6,h7,h8,h9,h10,h11⟩:=h
 obtain ⟨uin,une⟩:=zbm hu
 refine ⟨by omega,fun y hy d hd=>?_⟩
 rw [ln]
 rcases List.mem_append.mp hy with hy | hy
 ·rcases zfc hy with q | q
  ·rw [q] at hd
   cases hd
   have:=zvc c.2 n.nm s
   have:=F.2 un uin c hc
   show (c.2.put n.nm s).sz<=_
   omega
  ·have:=F.2 y q.1 d hd
   omega
 ·rw [List.mem_singleton.mp hy] at hd
  rcases ok with z | z
  ·rw [h7 z] at hd; cases hd
  ·obtain ⟨a,e⟩:=h8 z
   rw [e] at hd; cases hd
   have:(CSt.new (kdB kd)).sz = 0:=by cases kdB kd <;> rfl
   show (CSt.new (kdB kd)).sz<=_
   rw [this]; omega
inductive Ans
 | cls | plc | len | non
 | num (i:Int)
 | lst (xs:List Int)
def AnsV (H:Hp) (v:V):Ans->Prop
 | .cls=>∃ p,v = .ref p/\H p=some (.tup [.str (Str.ofString "class")])
 | .plc=>∃ p,v = .ref p/\H p=some (.tup [.str (Str.ofString "place")])
 | .len=>∃ p,v = .ref p/\H p=some (.tup [.str (Str.ofString "length")])
 | .non=>v = .non
 | .num i=>v = .int i
 | .lst xs=>∃ l,v = .ref l/\H l=some (.lst (xs.map V.int))
theorem AnsV.same {H H':Hp} {v:V}:∀ {a:Ans},AnsV H v a->Same H H'->AnsV H' v a
 | .cls,⟨p,e,h⟩,s=>⟨p,e,s _ _ h⟩
 | .plc,⟨p,e,h⟩,s=>⟨p,e,s _ _ h⟩
 | .len,⟨p,e,h⟩,s=>⟨p,e,s _ _ h⟩
 | .non,h,_=>h
 | .num _,h,_=>h
 | .lst _,⟨p,e,h⟩,s=>⟨p,e,s _ _ h⟩
def ansD:Ans->PyData
 | .cls=>.tuple [.str (Str.ofString "class")]
 | .plc=>.tuple [.str (Str.ofString "place")]
 | .len=>.tuple [.str (Str.ofString "length")]
 | .non=>.none
 | .num i=>.int i
 | .lst xs=>.list (xs.map PyData.int)
theorem zkq {K:PySem.W.Frag} {H:Hp}:∀ xs:List Int,DeepAll K H (xs.map V.int) (xs.map PyData.int)
 | []=>.nil
 | _ :: r=>.cons (.int _) (zkq r)
theorem zoh (l:List Int):PySem.SeqAt.shaped (.list (l.map PyData.int))=true:=by
 have c:PyData.canLayAll0 (l.map PyData.int)=true:=by
  induction l with
  | nil=>rfl
  | cons x r ih =>
   simp only [List.map_cons,PyData.canLayAll0,PyData.canLay0,Bool.and_eq_true]
   exact ⟨trivial,ih⟩
 have d:=ziu (f:=PyData.int) (n:=0) (fun _=>by simp [PyData.depth]) l
 unfold PySem.SeqAt.shaped
 rw [Bool.and_eq_true,decide_eq_true_eq]
 refine ⟨by simpa only [PyData.canLay0] using c,?_⟩
 simp only [PyData.depth]
 omega
theorem zfa:∀ a:Ans,PySem.SeqAt.shaped (ansD a)=true
 | .cls=>by decide +kernel
 | .plc=>by decide +kernel
 | .len=>by decide +kernel
 | .non=>rfl
 | .num _=>rfl
 | .lst xs=>zoh xs
theorem AnsV.deep {K:PySem.W.Frag} {H:Hp} {v:V}:∀ {a:Ans},AnsV H v a->Deep K H v (ansD a)
 | .cls,⟨p,e,h⟩=>by subst e; exact .tup (.of h) (.cons (.str _) .nil)
 | .plc,⟨p,e,h⟩=>by subst e; exact .tup (.of h) (.cons (.str _) .nil)
 | .len,⟨p,e,h⟩=>by subst e; exact .tup (.of h) (.cons (.str _) .nil)
 | .non,h=>by cases h; exact .non
 | .num i,h=>by cases h; exact .int i
 | .lst xs,⟨p,e,h⟩=>by subst e; exact .lst (.of h) (zkq xs)
def Ans.isNum:Ans->Bool
 | .num _=>true
 | _=>false
def Ans.isLst:Ans->Bool
 | .lst _=>true
 | _=>false
theorem zhg {K:PySem.W.Frag}:PySem.W.kitOne K (.type "tuple") (.type "int")=some false:=by first | rfl | decide
theorem zoi {K:PySem.W.Frag}:PySem.W.kitOne K (.type "NoneType") (.type "int")=some false:=by first | rfl | decide
theorem znh {K:PySem.W.Frag}:PySem.W.kitOne K (.type "list") (.type "int")=some false:=by first | rfl | decide
theorem zfu {K:PySem.W.Frag}:PySem.W.kitOne K (.type "tuple") (.type "list")=some false:=by first | rfl | decide
theorem zni {K:PySem.W.Frag}:PySem.W.kitOne K (.type "NoneType") (.type "list")=some false:=by first | rfl | decide
theorem znj {K:PySem.W.Frag}:PySem.W.kitOne K (.type "int") (.type "list")=some false:=by first | rfl | decide
theorem AnsV.isl {K:PySem.W.Frag} {H:Hp} {v:V} {Q:VK}:∀ {a:Ans},AnsV H v a->Q (.bl a.isLst) H->rInst K [v,.ty "list"] H Q
 | .cls,⟨p,e,h⟩,q=>by subst e; exact ⟨_,_,_,_,false,rfl,rfl,.tup h,zfu,q⟩
 | .plc,⟨p,e,h⟩,q=>by subst e; exact ⟨_,_,_,_,false,rfl,rfl,.tup h,zfu,q⟩
 | .len,⟨p,e,h⟩,q=>by subst e; exact ⟨_,_,_,_,false,rfl,rfl,.tup h,zfu,q⟩
 | .non,h,q=>by cases h; exact ⟨_,_,_,_,false,rfl,rfl,.non,zni,q⟩
 | .num i,h,q=>by cases h; exact ⟨_,_,_,_,false,rfl,rfl,.int i,znj,q⟩
 | .lst xs,⟨p,e,h⟩,q=>by subst e; exact ⟨_,_,_,_,true,rfl,rfl,.lst h,ztj,q⟩
def zuf:Sp:=fun vs H Q _=>∃ v a,vs = [v]/\AnsV H v a/\Q (.bl a.isNum) H
theorem znk (T:Txt K mg c_NoName c_Taken c_NoClass c_NoPlace c_NoShare c_NoLength c_Members c_Chooser c_Starts c_Rounds c_Node c_Tree):Def P w K mg base (CXX P w) 1 "_law_whole" ["_law_found"] zuf:=by
 refine T.src__law_whole.okN (k:=0) zli (fun vs H Q E h=>?_) (fun f cdv A outer s H vs Q E hr h=>?_)
 ·obtain ⟨v,a,rfl,_⟩:=h
  rfl
 ·obtain ⟨v,a,rfl,h,k⟩:=h
  refine ⟨_,(zaf (zar (zij (zbq (zdw K rfl) rfl T.no_isinstance boot_isinstance (zaa (pv 0) (zaa (zhs (v:=.ty "int") rfl T.no_int boot_int rfl) zag))) (zia (zum (zbq (zdw K rfl) rfl T.no_isinstance boot_isinstance (zaa (pv 0) (zaa (zhs (v:=.ty "bool") rfl T.no_bool boot_bool rfl) zag)))))))),?_⟩
  show tRet _ _ [some v] H
  walk_at "rd"
  cases a with
  | cls=>obtain ⟨p,rfl,hp⟩:=h; exact ⟨_,_,_,_,false,rfl,rfl,.tup hp,zhg,⟨_,rfl,iteF k⟩⟩
  | plc=>obtain ⟨p,rfl,hp⟩:=h; exact ⟨_,_,_,_,false,rfl,rfl,.tup hp,zhg,⟨_,rfl,iteF k⟩⟩
  | len=>obtain ⟨p,rfl,hp⟩:=h; exact ⟨_,_,_,_,false,rfl,rfl,.tup hp,zhg,⟨_,rfl,iteF k⟩⟩
  | non=>cases h; exact ⟨_,_,_,_,false,rfl,rfl,.non,zoi,⟨_,rfl,iteF k⟩⟩
  | num i=>cases h; exact ⟨_,_,_,_,true,rfl,rfl,.int i,zns,⟨_,rfl,iteT ⟨_,_,_,_,false,rfl,rfl,.int i,zmf,_,rfl,k⟩⟩⟩
  | lst xs=>obtain ⟨p,rfl,hp⟩:=h; exact ⟨_,_,_,_,false,rfl,rfl,.lst hp,znh,⟨_,rfl,iteF k⟩⟩
def comeA (D:TD) (x:Str) (len:Int):Ans:=if x=road then .cls else match fndN D.ns x with
 | none=>.cls
 | some n=>if n.ch.isSome=true then .plc else if ¬ (1<=len/\len<=D.most) then .len else if roomB n.rm n.qu len=true then .num D.ct else .non
def takeA (D:TD) (x:Str):Ans:=if x=road then .cls else match fndN D.ns x with
 | none=>.cls
 | some n=>if kids D.ns x≠[] then .plc else .lst (n.qu.map (·.1))
def waitA (D:TD) (x:Str):Ans:=if x=road then .cls else match fndN D.ns x with
 | none=>.cls
 | some n=>if n.ch.isSome=true then .plc else .lst (n.qu.map (·.1))
theorem zlq {D:TD} {x:Str} {len:Int} (h:x=road\/fndN D.ns x=none):comeA D x len = .cls:=by
 unfold comeA
 split
 ·rfl
 ·rename_i c
  rw [h.resolve_left c]
theorem zhy {D:TD} {x:Str} {len:Int} {n:ND} (h:x≠road) (hx:fndN D.ns x=some n):comeA D x len=if n.ch.isSome=true then .plc else if ¬ (1<=len/\len<=D.most) then .len else if roomB n.rm n.qu len=true then .num D.ct else .non:=by
 unfold comeA
 rw [if_neg h,hx]
theorem zpt {D:TD} {x:Str} (h:x=road\/fndN D.ns x=none):takeA D x = .cls:=by
 unfold takeA
 split
 ·rfl
 ·rename_i c
  rw [h.resolve_left c]
theorem zoj {D:TD} {x:Str} {n:ND} (h:x≠road) (hx:fndN D.ns x=some n):takeA D x=if kids D.ns x≠[] then .plc else .lst (n.qu.map (·.1)):=by
 unfold takeA
 rw [if_neg h,hx]
theorem zif {D:TD} {x:Str} (h:x=road\/fndN D.ns x=none):waitA D x = .cls:=by
 unfold waitA
 split
 ·rfl
 ·rename_i c
  rw [h.resolve_left c]
theorem zjq {D:TD} {x:Str} {n:ND} (h:x≠road) (hx:fndN D.ns x=some n):waitA D x=if n.ch.isSome=true then .plc else .lst (n.qu.map (·.1)):=by
 unfold waitA
 rw [if_neg h,hx]
def zwl (C:Cl):Sp:=fun vs H Q _=>∃ (D:TD) (x:Str) (len:Int),vs = [.ref D.p,.str x,.int len]/\TrOk C H D/\D.Wf/\(∀ n∈D.ns,n.ps.length<=890/\(n.rm = .non\/∃ r,n.rm = .int r))/\(∀ v H',Same H H'->(comeA D x len).isNum=false->AnsV H' v (comeA D x len)->Q v H')/\(∀ n q H',comeA D x len = .num D.ct->fndN D.ns x=some n->n.ch=none->H q=none->TrOk C H' (TD.come D n q len)->Deed D.foot H H'->Q (.int D.ct) H')
theorem zol (T:Txt K mg c_NoName c_Taken c_NoClass c_NoPlace c_NoShare c_NoLength c_Members c_Chooser c_Starts c_Rounds c_Node c_Tree):Def P w K mg base (CXX P w) 4 "_law_come" ["_law_tree", "_law_name_here", "_law_length_here"] (zwl (⟨c_Node,c_Starts,c_Rounds,c_Members,c_Node,c_Tree⟩:Cl)):=by
 have M_Tree_come:=zof (P:=P) (w:=w) (base:=base) T
 refine T.src__law_come.okN (k:=3) zmx (fun vs H Q E h=>?_) (fun f cdv A outer s H vs Q E hr h=>?_)
 ·obtain ⟨D,x,len,rfl,_⟩:=h
  rfl
 ·obtain ⟨D,x,len,rfl,O,W,ql,k,kn⟩:=h
  refine ⟨_,(zaf (znz rfl rfl K rfl rfl rfl (fun _ _=>(zaf (zar (zaw (dvs:=[]) M_Tree_come (by simp) T.cl_Tree (hr.mono (by decide)) passT (pv 0) (zaa (pv 1) (zaa (pv 2) zag)))))) (zgw K rfl T.xc_NoClass rfl T.mg_NoClass (fun _=>(zaf (zar (zdh (zaa zbd zag))))) (zgw K rfl T.xc_NoPlace rfl T.mg_NoPlace (fun _=>(zaf (zar (zdh (zaa zbd zag))))) (zgw K rfl T.xc_NoLength rfl T.mg_NoLength (fun _=>(zaf (zar (zdh (zaa zbd zag))))) zsj))))),?_⟩
  show (_:TS) _ [some (.ref D.p),some (.str x),some (.int len)] H
  unfold tTryM hkMs
  walk_at "rd"
  obtain ⟨dx,fs,hp,ft⟩:=O.ex
  refine zbc hp (ft.mis _ (by decide +kernel) (by decide +kernel) (by decide +kernel) (by decide +kernel) (by decide +kernel) (by decide +kernel)) ⟨D,x,len,rfl,O,W,ql,fun c e he=>?_,fun c n hx hc e he=>?_,fun c n hx hc=>⟨fun cl e he=>?_,fun cl=>⟨fun hb H' s'=>?_,fun hb q H' hq O' dd=>?_⟩⟩⟩
  ·refine ⟨e,rfl,c_NoClass,zab,zgx T.sub_NoClass_NoClass ?_⟩
   unfold Hd.run
   walk_at "rd"
   intro p hp
   have ea:=zlq (len:=len) c
   exact k _ _ ((zai he).trans (zai hp)) (by rw [ea]; rfl) (by rw [ea]; exact ⟨p,rfl,zab⟩)
  ·refine ⟨e,rfl,c_NoPlace,zab,zja T.sub_NoPlace_NoClass (zgx T.sub_NoPlace_NoPlace ?_)⟩
   unfold Hd.run
   walk_at "rd"
   intro p hp
   have ea:comeA D x len = .plc:=by rw [zhy c hx,if_pos (Option.isSome_iff_ne_none.mpr hc)]
   exact k _ _ ((zai he).trans (zai hp)) (by rw [ea]; rfl) (by rw [ea]; exact ⟨p,rfl,zab⟩)
  ·refine ⟨e,rfl,c_NoLength,zab,zja T.sub_NoLength_NoClass (zja T.sub_NoLength_NoPlace (zgx T.sub_NoLength_NoLength ?_))⟩
   unfold Hd.run
   walk_at "rd"
   intro p hp
   have ea:comeA D x len = .len:=by rw [zhy c hx,hc,if_neg (by simp),if_pos cl]
   exact k _ _ ((zai he).trans (zai hp)) (by rw [ea]; rfl) (by rw [ea]; exact ⟨p,rfl,zab⟩)
  ·have ea:comeA D x len = .non:=by rw [zhy c hx,hc,if_neg (by simp),if_neg (fun z=>z cl),if_neg (by rw [hb]; simp)]
   exact k _ _ s' (by rw [ea]; rfl) (by rw [ea]; exact (rfl:V.non=V.non))
  ·have ea:comeA D x len = .num D.ct:=by rw [zhy c hx,hc,if_neg (by simp),if_neg (fun z=>z cl),if_pos hb]
   exact kn n q H' ea hx hc hq O' dd
def zwm (C:Cl):Sp:=fun vs H Q _=>∃ (D:TD) (x:Str),vs = [.ref D.p,.str x]/\TrOk C H D/\D.Wf/\D.fit/\(∀ n∈D.ns,n.ps.length<=900)/\(∀ v H',Same H H'->(takeA D x).isLst=false->AnsV H' v (takeA D x)->Q v H')/\(x≠road->kids D.ns x = []->∀ n un c l H',fndN D.ns x=some n->n.ab=some un.nm->un∈D.ns->un.ch=some c->TrOk C H' (D.take un c x)->Deed D.foot H H'->H l=none->l ∉ (D.take un c x).foot->H' l=some (.lst (qnumV n))->Q (.ref l) H')
theorem zom (T:Txt K mg c_NoName c_Taken c_NoClass c_NoPlace c_NoShare c_NoLength c_Members c_Chooser c_Starts c_Rounds c_Node c_Tree):Def P w K mg base (CXX P w) 5 "_law_take" ["_law_tree", "_law_name_here"] (zwm (⟨c_Node,c_Starts,c_Rounds,c_Members,c_Node,c_Tree⟩:Cl)):=by
 have M_Tree_take:=zog (P:=P) (w:=w) (base:=base) T
 refine T.src__law_take.okN (k:=4) zmy (fun vs H Q E h=>?_) (fun f cdv A outer s H vs Q E hr h=>?_)
 ·obtain ⟨D,x,rfl,_⟩:=h
  rfl
 ·obtain ⟨D,x,rfl,O,W,F,ql,k,kn⟩:=h
  refine ⟨_,(zaf (znz rfl rfl K rfl rfl rfl (fun _ _=>(zaf (zar (zaw (dvs:=[]) M_Tree_take (by simp) T.cl_Tree (hr.mono (by decide)) passT (pv 0) (zaa (pv 1) zag))))) (zgw K rfl T.xc_NoClass rfl T.mg_NoClass (fun _=>(zaf (zar (zdh (zaa zbd zag))))) (zgw K rfl T.xc_NoPlace rfl T.mg_NoPlace (fun _=>(zaf (zar (zdh (zaa zbd zag))))) zsj)))),?_⟩
  show (_:TS) _ [some (.ref D.p),some (.str x)] H
  unfold tTryM hkMs
  walk_at "rd"
  obtain ⟨dx,fs,hp,ft⟩:=O.ex
  refine zbc hp (ft.mis _ (by decide +kernel) (by decide +kernel) (by decide +kernel) (by decide +kernel) (by decide +kernel) (by decide +kernel)) ⟨D,x,rfl,O,W,F,ql,fun c e he=>?_,fun c c2 hk H' s' e he=>?_,kn⟩
  ·refine ⟨e,rfl,c_NoClass,zab,zgx T.sub_NoClass_NoClass ?_⟩
   unfold Hd.run
   walk_at "rd"
   intro p hp
   have ea:=zpt c
   exact k _ _ ((zai he).trans (zai hp)) (by rw [ea]; rfl) (by rw [ea]; exact ⟨p,rfl,zab⟩)
  ·refine ⟨e,rfl,c_NoPlace,zab,zja T.sub_NoPlace_NoClass (zgx T.sub_NoPlace_NoPlace ?_)⟩
   unfold Hd.run
   walk_at "rd"
   intro p hp
   cases hx:fndN D.ns x with
   | none=>exact absurd hx c2
   | some n =>
   have ea:takeA D x = .plc:=by rw [zoj c hx,if_pos hk]
   exact k _ _ (s'.trans ((zai he).trans (zai hp))) (by rw [ea]; rfl) (by rw [ea]; exact ⟨p,rfl,zab⟩)
def zwn (C:Cl):Sp:=fun vs H Q _=>∃ (D:TD) (x:Str),vs = [.ref D.p,.str x]/\TrOk C H D/\(∀ n∈D.ns,n.ps.length<=900)/\(∀ v H',Same H H'->AnsV H' v (waitA D x)->(∀ l,v = .ref l->H l=none)->Q v H')
theorem zkh (T:Txt K mg c_NoName c_Taken c_NoClass c_NoPlace c_NoShare c_NoLength c_Members c_Chooser c_Starts c_Rounds c_Node c_Tree):Def P w K mg base (CXX P w) 4 "_law_waiting" ["_law_tree", "_law_name_here"] (zwn (⟨c_Node,c_Starts,c_Rounds,c_Members,c_Node,c_Tree⟩:Cl)):=by
 have M_Tree_waiting:=zkg (P:=P) (w:=w) (base:=base) T
 refine T.src__law_waiting.okN (k:=3) zjg (fun vs H Q E h=>?_) (fun f cdv A outer s H vs Q E hr h=>?_)
 ·obtain ⟨D,x,rfl,_⟩:=h
  rfl
 ·obtain ⟨D,x,rfl,O,ql,k⟩:=h
  refine ⟨_,(zaf (znz rfl rfl K rfl rfl rfl (fun _ _=>(zaf (zar (zaw (dvs:=[]) M_Tree_waiting (by simp) T.cl_Tree (hr.mono (by decide)) passT (pv 0) (zaa (pv 1) zag))))) (zgw K rfl T.xc_NoClass rfl T.mg_NoClass (fun _=>(zaf (zar (zdh (zaa zbd zag))))) (zgw K rfl T.xc_NoPlace rfl T.mg_NoPlace (fun _=>(zaf (zar (zdh (zaa zbd zag))))) zsj)))),?_⟩
  show (_:TS) _ [some (.ref D.p),some (.str x)] H
  unfold tTryM hkMs
  walk_at "rd"
  obtain ⟨dx,fs,hp,ft⟩:=O.ex
  have no:∀ {e p:Addr} {o:HO},upd H e o p=none->H p=none:=fun {e p o} h=>by
   by_cases z:p=e
   ·rw [z,zab] at h; cases h
   ·rw [zah z] at h; exact h
  refine zbc hp (ft.mis _ (by decide +kernel) (by decide +kernel) (by decide +kernel) (by decide +kernel) (by decide +kernel) (by decide +kernel)) ⟨D,x,rfl,O,ql,fun c e he=>?_,fun c n hx hc e he=>?_,fun c n hx hc l H' s' hl h'=>?_⟩
  ·refine ⟨e,rfl,c_NoClass,zab,zgx T.sub_NoClass_NoClass ?_⟩
   unfold Hd.run
   walk_at "rd"
   intro p hp
   have ea:=zif c
   exact k _ _ ((zai he).trans (zai hp)) (by rw [ea]; exact ⟨p,rfl,zab⟩) fun l z=>by cases z; exact no hp
  ·refine ⟨e,rfl,c_NoPlace,zab,zja T.sub_NoPlace_NoClass (zgx T.sub_NoPlace_NoPlace ?_)⟩
   unfold Hd.run
   walk_at "rd"
   intro p hp
   have ea:waitA D x = .plc:=by rw [zjq c hx,if_pos (Option.isSome_iff_ne_none.mpr hc)]
   exact k _ _ ((zai he).trans (zai hp)) (by rw [ea]; exact ⟨p,rfl,zab⟩) fun l z=>by cases z; exact no hp
  ·have ea:waitA D x = .lst (n.qu.map (·.1)):=by rw [zjq c hx,hc,if_neg (by simp)]
   exact k _ _ s' (by rw [ea]; exact ⟨l,rfl,h'⟩) fun l' z=>by cases z; exact hl
structure WE where
 nm:Str
 q:Addr
 ab:Str
 ql:Option Addr
 rm:V
 ps:List Addr
 qu:List D2
def lV:Option Addr->V
 | none=>.non
 | some l=>.ref l
def weK (ws:List WE):List (Key×V):=ws.map fun w=>((Sum.inr w.nm:Key),V.ref w.q)
def lists (ws:List WE):List Addr:=ws.filterMap (·.ql)
structure WdOk (H:Hp) (wd:Addr) (ws:List WE):Prop where
 hd:H wd=some (.dK (weK ws))
 ht:∀ w∈ws,H w.q=some (.tup [.str w.ab,lV w.ql,w.rm])
 hg:∀ w∈ws,∀ l,w.ql=some l->Gos H l w.ps w.qu
theorem WdOk.same {H H':Hp} {wd:Addr} {ws:List WE} (h:WdOk H wd ws) (s:Same H H'):WdOk H' wd ws:=⟨s _ _ h.hd,fun w hw=>s _ _ (h.ht w hw),fun w hw l e=>(h.hg w hw l e).same s⟩
def wfn (ws:List WE) (x:Str):Option WE:=ws.find? fun w=>decide (w.nm=x)
theorem zfn (ws:List WE) (x:Str):valV (weK ws) (Sum.inr x:Key)=(wfn ws x).map fun w=>V.ref w.q:=by
 induction ws with
 | nil=>rfl
 | cons p r ih =>
  unfold valV weK wfn at ih ⊢
  rw [List.map_cons,List.find?_cons,List.find?_cons]
  by_cases h:p.nm=x
  ·simp [h]
  ·have h2:¬ (Sum.inr p.nm:Key)=Sum.inr x:=fun z=>h (Sum.inr.inj z)
   simp only [decide_eq_false h,decide_eq_false h2]
   exact ih
theorem zfv {ws:List WE} {x:Str} {w:WE} (h:wfn ws x=some w):w∈ws/\w.nm=x:=by
 unfold wfn at h
 exact ⟨List.mem_of_find?_eq_some h,of_decide_eq_true (List.find?_some (p:=fun n:WE=>decide (n.nm=x)) h)⟩
theorem we_at {H:Hp} {wd:Addr} {ws:List WE} {x:Str} {w:WE} (O:WdOk H wd ws) (h:wfn ws x=some w):DGet H wd (.str x) (some (.ref w.q)):=by
 have:=DGet.k (k:=Sum.inr x) O.hd
 rw [zfn,h] at this
 exact this
structure NW (n:ND) (w:WE):Prop where
 nm:n.nm=w.nm
 ab:n.ab=some w.ab
 lf:n.ch=none↔w.ql≠none
 qu:w.ql≠none->n.qu=w.qu
 rm:n.rm=w.rm
 em:w.ql=none->n.qu = []
def Mt (D:TD) (ws:List WE):Prop:=∃ r rest,D.ns=r :: rest/\Paired NW rest ws
theorem Mt.fnd {D:TD} {ws:List WE} (h:Mt D ws) (W:D.Wf) {x:Str} (hx:x≠road):(fndN D.ns x=none/\wfn ws x=none)\/∃ n w,fndN D.ns x=some n/\wfn ws x=some w/\NW n w:=by
 obtain ⟨r,rest,e,p⟩:=h
 obtain ⟨r',rest',e',r1,_⟩:=W.rd
 rw [e] at e'
 cases e'
 rw [e]
 have:fndN (r :: rest) x=fndN rest x:=by
  unfold fndN
  rw [List.find?_cons,decide_eq_false (fun z:r.nm=x=>hx (z.symm.trans r1))]
 rw [this]
 clear this e r1 hx W
 induction p with
 | nil=>exact .inl ⟨rfl,rfl⟩
 | @cons n w ns ws h t ih =>
  unfold fndN wfn at ih ⊢
  rw [List.find?_cons,List.find?_cons]
  by_cases c:n.nm=x
  ·have c2:w.nm=x:=h.nm ▸ c
   rw [decide_eq_true c,decide_eq_true c2]
   exact .inr ⟨n,w,rfl,rfl,h⟩
  ·have c2:¬ w.nm=x:=h.nm ▸ c
   rw [decide_eq_false c,decide_eq_false c2]
   exact ih
theorem Mt.kids {D:TD} {ws:List WE} (h:Mt D ws) (W:D.Wf) (x:Str):L2.kids D.ns x=(ws.filter fun w=>decide (w.ab=x)).map (·.nm):=by
 obtain ⟨r,rest,e,p⟩:=h
 obtain ⟨r',rest',e',r1,r2,_⟩:=W.rd
 rw [e] at e'
 cases e'
 rw [e]
 have:L2.kids (r :: rest) x=L2.kids rest x:=by
  unfold L2.kids
  rw [List.filter_cons,r2]
  rfl
 rw [this]
 clear this e r1 r2 W
 induction p with
 | nil=>rfl
 | @cons n w ns ws h t ih =>
  unfold L2.kids at ih ⊢
  rw [List.filter_cons,List.filter_cons,h.ab]
  by_cases c:w.ab=x
  ·rw [if_pos (by simp [c]),if_pos (by simp [c]),List.map_cons,List.map_cons,ih,h.nm]
  ·rw [if_neg (by simp [c]),if_neg (by simp [c]),ih]
theorem Mt.noroad {D:TD} {ws:List WE} (h:Mt D ws) (W:D.Wf):wfn ws road=none:=by
 obtain ⟨r,rest,e,p⟩:=h
 obtain ⟨r',rest',e',r1,r2,_⟩:=W.rd
 rw [e] at e'
 cases e'
 have nn:=W.nn
 rw [e,List.map_cons,List.nodup_cons,r1] at nn
 have:=nn.1
 clear nn e r1 r2 W
 induction p with
 | nil=>rfl
 | @cons n w ns ws h t ih =>
  rw [List.map_cons,List.mem_cons,not_or] at this
  unfold wfn at ih ⊢
  rw [List.find?_cons,decide_eq_false (fun z=>this.1 (by rw [h.nm,z]))]
  exact ih this.2
theorem Mt.cls {D:TD} {ws:List WE} (h:Mt D ws) (W:D.Wf) {x:Str} (hx:wfn ws x=none):x=road\/fndN D.ns x=none:=by
 by_cases c:x=road
 ·exact .inl c
 ·rcases h.fnd W c with ⟨q,_⟩ | ⟨_,_,_,q,_⟩
  ·exact .inr q
  ·rw [hx] at q; cases q
theorem Mt.inn {D:TD} {ws:List WE} (h:Mt D ws) (W:D.Wf) {x:Str} {w:WE} (hx:wfn ws x=some w):x≠road/\∃ n,fndN D.ns x=some n/\NW n w:=by
 have c:x≠road:=fun z=>by rw [z,h.noroad W] at hx; cases hx
 rcases h.fnd W c with ⟨_,q⟩ | ⟨n,w',q1,q2,nw⟩
 ·rw [hx] at q; cases q
 ·rw [hx] at q2; cases q2
  exact ⟨c,n,q1,nw⟩
theorem zlr {l D:Addr} {ps:List Addr} {gs:List D2} {H:Hp} {Q:VK} {te:TE} (pr:D2->Int) (R:Gos H l ps gs) (hD:H D=none) (ng:ps.length<=900) (ht:∀ (p:Addr) (g:D2) (H':Hp) (Z:VK),H' p=some (.tup (d2 g))->Z (.int (pr g)) H'->te [some (.ref p)] H' Z) (k:∀ H',Same H H'->H' D=some (.lst ((gs.map pr).map V.int))->Q (.ref D) H'):CompG (Itl K l) (gName 0) tYes te D [none] (upd H D (.lst [])) Q:=by
 have lg:=R.r.len
 refine zit (xs:=ps.map V.ref) (fun i τ H'=>(∃ v0,τ = [v0])/\Same H H'/\H' D=some (.lst (((gs.take i).map pr).map V.int))) ⟨⟨none,rfl⟩,zai hD,zab⟩ (fun i τ H' _ h=>.of (h.2.1 _ _ R.hl)) ?_ ?_
 ·rintro i x τ H' hx ⟨⟨v0,rfl⟩,s',hDl⟩
  rw [List.getElem?_map] at hx
  cases e:ps[i]? with
  | none=>rw [e] at hx; cases hx
  | some p =>
   rw [e] at hx
   cases hx
   obtain ⟨g,hg,hp⟩:=R.r.get e
   unfold gName
   show tYes [some (.ref p)] H' _
   unfold tYes
   refine ht p g H' _ (s' _ _ hp) ?_
   refine ⟨_,hDl,zfl ?_,⟨_,rfl⟩,fun b o e=>?_,?_⟩
   ·rw [List.length_map,List.length_map,List.length_take]; omega
   ·rw [zah (zao e hD)]; exact s' _ _ e
   ·rw [zab,zfm hg,List.map_append,List.map_append]; rfl
 ·rintro τ H' ⟨_,s',hDl⟩
  rw [List.length_map,lg,List.take_length] at hDl
  exact k H' s' hDl
structure WdR (H:Hp) (wd:Addr) (ws:List WE):Prop where
 hd:Rd H wd (.dK (weK ws))
 ht:∀ w∈ws,H w.q=some (.tup [.str w.ab,lV w.ql,w.rm])
 hg:∀ w∈ws,∀ l,w.ql=some l->Gos H l w.ps w.qu
theorem WdOk.r {H:Hp} {wd:Addr} {ws:List WE} (h:WdOk H wd ws):WdR H wd ws:=⟨.inl h.hd,h.ht,h.hg⟩
theorem WdR.same {H H':Hp} {wd:Addr} {ws:List WE} (h:WdR H wd ws) (s:Same H H'):WdR H' wd ws:=⟨h.hd.elim (fun z=>.inl (s _ _ z)) fun ⟨o,z⟩=>.inr ⟨o,s _ _ z⟩,fun w hw=>s _ _ (h.ht w hw),fun w hw l e=>(h.hg w hw l e).same s⟩
theorem zvd {H:Hp} {wd:Addr} {ws:List WE} {x:Str} {w:WE} (O:WdR H wd ws) (h:wfn ws x=some w):DGet H wd (.str x) (some (.ref w.q)):=by
 refine .inl ⟨_,Sum.inr x,O.hd,rfl,?_⟩
 rw [zfn,h]; rfl
def zwo:Sp:=fun vs H Q _=>∃ (wd:Addr) (D:TD) (ws:List WE) (x:Str),vs = [.ref wd,.str x]/\WdR H wd ws/\D.Wf/\Mt D ws/\(∀ w∈ws,w.ps.length<=900)/\(∀ v H',Same H H'->AnsV H' v (waitA D x)->Q v H')
theorem zhr (T:Txt K mg c_NoName c_Taken c_NoClass c_NoPlace c_NoShare c_NoLength c_Members c_Chooser c_Starts c_Rounds c_Node c_Tree):Def P w K mg base (CXX P w) 1 "_law_due_waiting" ["_law_world", "_law_name_here"] zwo:=by
 refine T.src__law_due_waiting.okN (k:=0) zgy (fun vs H Q E h=>?_) (fun f cdv A outer s H vs Q E hr h=>?_)
 ·obtain ⟨wd,D,ws,x,rfl,_⟩:=h
  rfl
 ·obtain ⟨wd,D,ws,x,rfl,G,W,M,ql,k⟩:=h
  refine ⟨_,(zad (ps_if (zgk (zeo (hu_of hr) (pv 1) (pv 0))) (zaf (zar (zdh (zaa zbd zag)))) zaq) (zad (ps_if (zau zil (pe_ix (zdc K rfl) (zca (hu_of hr) (pv 0) (pv 1) (fun _ _=>rfl)) zak (fun _ _=>rfl)) zdd (zba _)) (zaf (zar (zdh (zaa zbd zag)))) zaq) (zaf (zar (pe_lc ["_law_entry"] [] rfl (by with_unfolding_all rfl) (by decide +kernel) rfl (by decide +kernel) (by exact True.intro) (by with_unfolding_all rfl) True.intro (zet K rfl (pe_ix (zdc K rfl) (zca (hu_of hr) (pv 0) (pv 1) (fun _ _=>rfl)) zak (fun _ _=>rfl))) (fun _ _ _=>(zbs (i:=0) (show (["_law_entry"]:List Str).Nodup from by decide +kernel) rfl (by first|left;rfl|right;rfl))) (fun _ _ _=>zes) (fun _ _ _=>(pe_ix (zdc K rfl) (pv 0) zak (fun _ _=>rfl)))))))),?_⟩
  show tSeq _ _ _ [some (.ref wd),some (.str x)] H
  refine zae fun R hR=>?_
  walk_at "rd"
  refine ⟨_,.inl ⟨_,Sum.inr x,G.hd,rfl,rfl⟩,?_⟩
  rw [zfn]
  cases hx:wfn ws x with
  | none =>
   have ea:=zif (M.cls W hx)
   intro p hp
   exact k _ _ (zai hp) (by rw [ea]; exact ⟨p,rfl,zab⟩)
  | some w0 =>
  refine hR _ _ ?_
  clear hR
  obtain ⟨c,n,hn,nw⟩:=M.inn W hx
  have win:=(zfv hx).1
  refine zae fun R hR=>?_
  walk_at "rd"
  refine ⟨_,zvd G hx,?_⟩
  refine zed (.of (G.ht w0 win)) (v:=lV w0.ql) rfl ?_
  cases hq:w0.ql with
  | none =>
   refine ite2 (fun _=>?_) fun z=>absurd rfl z
   have hc:n.ch≠none:=fun z=>nw.lf.mp z hq
   have ea:waitA D x = .plc:=by rw [zjq c hn,if_pos (Option.isSome_iff_ne_none.mpr hc)]
   intro p hp
   exact k _ _ (zai hp) (by rw [ea]; exact ⟨p,rfl,zab⟩)
  | some l =>
   refine ite2 (fun z=>by cases z) fun _=>hR _ _ ?_
   have hc:n.ch=none:=nw.lf.mpr (by rw [hq]; simp)
   have ea:waitA D x = .lst (w0.qu.map (·.1)):=by rw [zjq c hn,hc,if_neg (by simp),nw.qu (by rw [hq]; simp)]
   walk_at "rd"
   refine ⟨_,zvd G hx,?_⟩
   refine zed (.of (G.ht w0 win)) (v:=lV w0.ql) rfl ?_
   rw [show lV w0.ql = .ref l by rw [hq]; rfl]
   walk_at "rd"
   have R0:=G.hg w0 win l hq
   refine ⟨⟨_,.of R0.hl⟩,fun L hL=>?_⟩
   exact zlr (·.1) R0 hL (ql w0 win) (fun p g H' Z hp q=>⟨_,rfl,zed (.of hp) (v:=.int g.1) rfl q⟩) fun H' s' hDl=>k _ _ s' (by rw [ea]; exact ⟨L,rfl,hDl⟩)
def zwp (C:Cl):Sp:=fun vs H Q _=>∃ (wd:Addr) (D:TD) (ws:List WE) (x:Str) (len:Int),vs = [.ref D.p,.ref wd,.str x,.int len,.int D.ct]/\TrOk C H D/\WdOk H wd ws/\D.Wf/\Mt D ws/\(∀ w∈ws,w.ps.length<=900/\(w.rm = .non\/∃ r,w.rm = .int r))/\(∀ v H',Same H H'->AnsV H' v (comeA D x len)->Q v H')
theorem zjr (T:Txt K mg c_NoName c_Taken c_NoClass c_NoPlace c_NoShare c_NoLength c_Members c_Chooser c_Starts c_Rounds c_Node c_Tree):Def P w K mg base (CXX P w) 1 "_law_due_come" ["_law_tree", "_law_world", "_law_name_here", "_law_length_here", "_law_counted"] (zwp (⟨c_Node,c_Starts,c_Rounds,c_Members,c_Node,c_Tree⟩:Cl)):=by
 refine T.src__law_due_come.okN (k:=0) sc__law_due_come (fun vs H Q E h=>?_) (fun f cdv A outer s H vs Q E hr h=>?_)
 ·obtain ⟨wd,D,ws,x,len,rfl,_⟩:=h
  rfl
 ·obtain ⟨wd,D,ws,x,len,rfl,O,G,W,M,ql,k⟩:=h
  refine ⟨_,(zad (ps_if (zgk (zeo (hu_of hr) (pv 2) (pv 1))) (zaf (zar (zdh (zaa zbd zag)))) zaq) (zad (ps_if (zau zil (pe_ix (zdc K rfl) (zca (hu_of hr) (pv 1) (pv 2) (fun _ _=>rfl)) zak (fun _ _=>rfl)) zdd (zba _)) (zaf (zar (zdh (zaa zbd zag)))) zaq) (zad (ps_if (PW.pt (pw_or (zau op_lt (pv 3) zak (zba _)) (zqr (zau op_gt (pv 3) (zas (pv 0) rfl) (zba _))))) (zaf (zar (zdh (zaa zbd zag)))) zaq) (zad (zbg (i:=5) sc__law_due_come.nd rfl (by first|left;rfl|right;rfl) (zbq (zmh K rfl rfl) rfl T.no_sum boot_sum (zaa (pe_lc ["_law_entry"] [] rfl (by with_unfolding_all rfl) (by decide +kernel) rfl (by decide +kernel) (by exact True.intro) (by with_unfolding_all rfl) True.intro (zet K rfl (pe_ix (zdc K rfl) (zca (hu_of hr) (pv 1) (pv 2) (fun _ _=>rfl)) zak (fun _ _=>rfl))) (fun _ _ _=>(zbs (i:=0) (show (["_law_entry"]:List Str).Nodup from by decide +kernel) rfl (by first|left;rfl|right;rfl))) (fun _ _ _=>zes) (fun _ _ _=>(pe_ix (zdc K rfl) (pv 0) zak (fun _ _=>rfl)))) zag))) (zad (ps_if (PW.pt (zki (zau zim (pe_ix (zdc K rfl) (zca (hu_of hr) (pv 1) (pv 2) (fun _ _=>rfl)) zak (fun _ _=>rfl)) zdd (zba _)) (zih (zau op_gt (pe_op zew (pv 5) (pv 3)) (pe_ix (zdc K rfl) (zca (hu_of hr) (pv 1) (pv 2) (fun _ _=>rfl)) zak (fun _ _=>rfl)) (zba _))))) (zaf (zar zdd)) zaq) (zaf (zar (pv 4)))))))),?_⟩
  show tSeq _ _ _ [some (.ref D.p),some (.ref wd),some (.str x),some (.int len),some (.int D.ct),none] H
  refine zae fun R hR=>?_
  walk_at "rd"
  refine ⟨_,DGet.k (k:=Sum.inr x) G.hd,?_⟩
  rw [zfn]
  cases hx:wfn ws x with
  | none =>
   have ea:=zlq (len:=len) (M.cls W hx)
   intro p hp
   exact k _ _ (zai hp) (by rw [ea]; exact ⟨p,rfl,zab⟩)
  | some w0 =>
  refine hR _ _ ?_
  clear hR
  obtain ⟨c,n,hn,nw⟩:=M.inn W hx
  have win:=(zfv hx).1
  refine zae fun R hR=>?_
  walk_at "rd"
  refine ⟨_,we_at G hx,?_⟩
  refine zed (.of (G.ht w0 win)) (v:=lV w0.ql) rfl ?_
  cases hq:w0.ql with
  | none =>
   refine ite2 (fun _=>?_) fun z=>absurd rfl z
   have hc:n.ch≠none:=fun z=>nw.lf.mp z hq
   have ea:comeA D x len = .plc:=by rw [zhy c hn,if_pos (Option.isSome_iff_ne_none.mpr hc)]
   intro p hp
   exact k _ _ (zai hp) (by rw [ea]; exact ⟨p,rfl,zab⟩)
  | some l =>
   refine ite2 (fun z=>by cases z) fun _=>hR _ _ ?_
   clear hR
   have hc:n.ch=none:=nw.lf.mpr (by rw [hq]; simp)
   have R0:=G.hg w0 win l hq
   obtain ⟨dx,fs,hp,ft⟩:=O.ex
   have e0:comeA D x len=if ¬ (1<=len/\len<=D.most) then .len else if roomB w0.rm w0.qu len=true then .num D.ct else .non:=by rw [zhy c hn,hc,if_neg (by simp),nw.qu (by rw [hq]; simp),nw.rm]
   have bad:¬ (1<=len/\len<=D.most)->∀ p,H p=none->Q (.ref p) (upd H p (.tup [.str (Str.ofString "length")])):=fun cl p hp=>by
    rw [if_pos cl] at e0
    exact k _ _ (zai hp) (by rw [e0]; exact ⟨p,rfl,zab⟩)
   refine zae fun R hR=>?_
   walk_at "rd"
   refine ite2 (fun c1=>bad fun z=>by omega) fun c1=>zap hp T.cl_Tree T.na_Tree_most ft.mo ⟨_,rfl,ite2 (fun c2=>bad fun z=>by omega) fun c2=>hR _ _ ?_⟩
   clear hR
   rw [if_neg (fun z=>z ⟨by omega,by omega⟩)] at e0
   refine zae fun R hR=>?_
   walk_at "rd"
   refine ⟨_,we_at G hx,?_⟩
   refine zed (.of (G.ht w0 win)) (v:=lV w0.ql) rfl ?_
   rw [show lV w0.ql = .ref l by rw [hq]; rfl]
   walk_at "rd"
   refine ⟨⟨_,.of R0.hl⟩,fun L hL=>?_⟩
   refine zlr (·.2) R0 hL (ql w0 win).1 (fun p g H' Z hp q=>⟨_,rfl,zed (.of hp) (v:=.int g.2) rfl q⟩) fun H1 s1 hLl=>?_
   refine ⟨L,_,rfl,.of hLl,hR _ _ ?_⟩
   clear hR
   have G1:=G.same s1
   refine zae fun R hR=>?_
   walk_at "rd"
   refine ⟨_,we_at G1 hx,?_⟩
   refine zed (.of (G1.ht w0 win)) (v:=w0.rm) rfl ?_
   rcases (ql w0 win).2 with z | ⟨r,z⟩
   ·rw [z] at e0 ⊢
    have ea:comeA D x len = .num D.ct:=e0
    refine ite2 (fun _=>hR _ _ ?_) fun y=>absurd rfl y
    walk_at "rd"
    exact k _ _ s1 (by rw [ea]; exact (rfl:V.int D.ct=V.int D.ct))
   ·rw [z] at e0 ⊢
    refine ite2 (fun y=>by cases y) fun _=>?_
    refine ⟨_,we_at G1 hx,?_⟩
    refine zed (.of (G1.ht w0 win)) (v:=w0.rm) rfl ?_
    rw [z]
    refine ⟨_,rfl,?_⟩
    have e0:comeA D x len=if decide ((w0.qu.map (·.2)).sum+len<=r)=true then .num D.ct else .non:=e0
    refine ite2 (fun c3=>?_) fun c3=>hR _ _ ?_
    ·rw [if_neg (by rw [decide_eq_true_iff]; omega)] at e0
     exact k _ _ s1 (by rw [e0]; exact (rfl:V.non=V.non))
    ·rw [if_pos (by rw [decide_eq_true_iff]; omega)] at e0
     walk_at "rd"
     exact k _ _ s1 (by rw [e0]; exact (rfl:V.int D.ct=V.int D.ct))
theorem zwq (y:Str) (rd:List Str):inV (.str y) (rd.map V.str)=decide (y∈rd):=by
 unfold inV
 rw [List.any_map]
 rw [Bool.eq_iff_iff,List.any_eq_true,decide_eq_true_eq]
 constructor
 ·rintro ⟨z,hz,e⟩
  have e:eqV (.str z) (.str y)=true:=e
  have:z=y:=by simpa [eqV] using e
  rw [<- this]; exact hz
 ·intro h
  exact ⟨y,h,by show eqV (.str y) (.str y)=true; simp [eqV]⟩
theorem zsv (rd:List Str):(rd.map V.str).all flatV=true:=by
 rw [List.all_eq_true]
 intro v hv
 obtain ⟨x,_,rfl⟩:=List.mem_map.mp hv
 rfl
def zwr:Sp:=fun vs H Q _=>∃ (wd:Addr) (D:TD) (ws:List WE) (x:Str),vs = [.ref wd,.str x]/\WdOk H wd ws/\D.Wf/\Mt D ws/\(∀ w∈ws,w.ps.length<=900)/\ws.length<=60/\(∀ v H',Same H H'->AnsV H' v (takeA D x)->(∀ l',v = .ref l'->H l'=none)->Q v H')
theorem zjs (T:Txt K mg c_NoName c_Taken c_NoClass c_NoPlace c_NoShare c_NoLength c_Members c_Chooser c_Starts c_Rounds c_Node c_Tree):Def P w K mg base (CXX P w) 1 "_law_due_take" ["_law_world", "_law_name_here"] zwr:=by
 refine T.src__law_due_take.okN (k:=0) zic (fun vs H Q E h=>?_) (fun f cdv A outer s H vs Q E hr h=>?_)
 ·obtain ⟨wd,D,ws,x,rfl,_⟩:=h
  rfl
 ·obtain ⟨wd,D,ws,x,rfl,G,W,M,ql,wl,k⟩:=h
  refine ⟨_,(zad (ps_if (zgk (zeo (hu_of hr) (pv 1) (pv 0))) (zaf (zar (zdh (zaa zbd zag)))) zaq) (zad (ps_if (zau (zxx K rfl) (pv 1) (zsn (pe_lc ["_law_place"] [] rfl (by with_unfolding_all rfl) (by decide +kernel) rfl (by decide +kernel) (by exact True.intro) (by with_unfolding_all rfl) True.intro (zvy (pv 0)) (fun _ _ _=>(zbs (i:=0) (show (["_law_place"]:List Str).Nodup from by decide +kernel) rfl (by first|left;rfl|right;rfl))) (fun _ _ _=>zes) (fun _ _ _=>(pe_ix (zdc K rfl) (pv 0) zak (fun _ _=>rfl))))) rfl) (zaf (zar (zdh (zaa zbd zag)))) zaq) (zad (ps_if (zau zil (pe_ix (zdc K rfl) (zca (hu_of hr) (pv 0) (pv 1) (fun _ _=>rfl)) zak (fun _ _=>rfl)) zdd (zba _)) (zaf (zar (zea zag))) zaq) (zaf (zar (pe_lc ["_law_entry"] [] rfl (by with_unfolding_all rfl) (by decide +kernel) rfl (by decide +kernel) (by exact True.intro) (by with_unfolding_all rfl) True.intro (zet K rfl (pe_ix (zdc K rfl) (zca (hu_of hr) (pv 0) (pv 1) (fun _ _=>rfl)) zak (fun _ _=>rfl))) (fun _ _ _=>(zbs (i:=0) (show (["_law_entry"]:List Str).Nodup from by decide +kernel) rfl (by first|left;rfl|right;rfl))) (fun _ _ _=>zes) (fun _ _ _=>(pe_ix (zdc K rfl) (pv 0) zak (fun _ _=>rfl))))))))),?_⟩
  show tSeq _ _ _ [some (.ref wd),some (.str x)] H
  refine zae fun R hR=>?_
  walk_at "rd"
  refine ⟨_,DGet.k (k:=Sum.inr x) G.hd,?_⟩
  rw [zfn]
  cases hx:wfn ws x with
  | none =>
   have ea:=zpt (M.cls W hx)
   intro p hp
   exact k _ _ (zai hp) (by rw [ea]; exact ⟨p,rfl,zab⟩) fun l' z=>by cases z; exact hp
  | some w0 =>
  refine hR _ _ ?_
  clear hR
  obtain ⟨c,n,hn,nw⟩:=M.inn W hx
  have win:=(zfv hx).1
  refine zae fun R hR=>?_
  walk_at "rd"
  unfold tThaw
  walk_at "rd"
  unfold iVals
  walk_at "rd"
  refine ⟨_,G.hd,fun o L hL=>?_⟩
  have nL:L≠wd:=fun z=>by rw [z,zab] at hL; cases hL
  have nq:∀ w∈ws,w.q≠wd:=fun w0 win z=>by have ht:=G.ht w0 win; rw [z,G.hd] at ht; cases ht
  have lk:(weK ws).length=ws.length:=List.length_map _
  refine zso (fun i τ H'=>(∃ v0,τ = [v0])/\Same (upd H wd (.frz o (.dK (weK ws)))) H'/\H' L=some (.lst (((ws.take i).map (·.ab)).map V.str))) ⟨⟨none,rfl⟩,zai hL,zab⟩ (fun i τ H' _ ⟨_,sm,_⟩=>sm _ _ zab) ?_ ?_
  ·rintro i kv τ H6 hkv ⟨⟨v0,rfl⟩,sm,hLl⟩
   obtain ⟨w1,hw,rfl⟩:∃ w1,ws[i]? = some w1/\((Sum.inr w1.nm:Key),V.ref w1.q)=kv:=by
    unfold weK at hkv
    rw [List.getElem?_map] at hkv
    cases e:ws[i]? with
    | none=>rw [e] at hkv; cases hkv
    | some p=>rw [e] at hkv; exact ⟨p,rfl,Option.some.inj hkv⟩
   have win:=List.mem_of_getElem? hw
   have ht:H6 w1.q=some (.tup [.str w1.ab,lV w1.ql,w1.rm]):=sm _ _ (by rw [zah (nq w1 win)]; exact G.ht w1 win)
   unfold gName
   show tYes [some (.ref w1.q)] H6 _
   unfold tYes
   walk_at "rd"
   refine zed (.of ht) (v:=.str w1.ab) rfl ?_
   refine ⟨_,hLl,zfl ?_,fun b u' e=>?_,?_⟩
   ·rw [List.length_map,List.length_map,List.length_take]; omega
   ·rw [zah (zao e hL)]; exact sm _ _ e
   ·rw [zab,zfm hw,List.map_append,List.map_append]; rfl
  rintro τ H6 ⟨_,sm,hLl⟩
  rw [lk,List.take_length] at hLl
  refine ⟨wd,⟨_,G.hd⟩,o,_,sm _ _ zab,?_⟩
  have s7:Same H (upd H6 wd (.dK (weK ws))):=fun b u' e=>by
   by_cases z:b=wd
   ·subst z
    rw [G.hd] at e; cases e
    exact zab
   ·rw [zah z]
    exact sm _ _ (by rw [zah z]; exact e)
  have h7:upd H6 wd (.dK (weK ws)) L=some (.lst ((ws.map (·.ab)).map V.str)):=by rw [zah nL]; exact hLl
  generalize upd H6 wd (.dK (weK ws))=H7 at s7 h7 ⊢
  refine ⟨L,_,rfl,.inl (.of h7),rfl,zsv _,_,rfl,?_⟩
  rw [zwq]
  have ki:kids D.ns x≠[]↔x∈ws.map (·.ab):=by
   rw [M.kids W,Ne,List.map_eq_nil_iff,List.filter_eq_nil_iff]
   constructor
   ·intro h
    by_cases z:x∈ws.map (·.ab)
    ·exact z
    ·exact absurd (fun w hw e=>z (List.mem_map.mpr ⟨w,hw,of_decide_eq_true e⟩)) h
   ·intro h g
    obtain ⟨w,hw,e⟩:=List.mem_map.mp h
    exact g w hw (decide_eq_true e)
  have no7:∀ {b},H7 b=none->H b=none:=fun {b} e=>by
   cases z:H b with
   | none=>rfl
   | some o=>rw [s7 _ _ z] at e; cases e
  have e0:=zoj c hn
  have G7:=G.same s7
  refine ite2 (fun c1=>?_) fun c1=>hR _ _ ?_
  ·have hk:=ki.mpr (of_decide_eq_true c1)
   rw [if_pos hk] at e0
   intro p hp
   exact k _ _ (s7.trans (zai hp)) (by rw [e0]; exact ⟨p,rfl,zab⟩) fun l' z=>by cases z; exact no7 hp
  clear hR
  rw [if_neg (fun z=>c1 (decide_eq_true (ki.mp z)))] at e0
  refine zae fun R hR=>?_
  walk_at "rd"
  refine ⟨_,we_at G7 hx,?_⟩
  refine zed (.of (G7.ht w0 win)) (v:=lV w0.ql) rfl ?_
  cases hq:w0.ql with
  | none =>
   refine ite2 (fun _=>?_) fun z=>absurd rfl z
   rw [nw.em hq] at e0
   intro p hp
   exact k _ _ (s7.trans (zai hp)) (by rw [e0]; exact ⟨p,rfl,zab⟩) fun l' z=>by cases z; exact no7 hp
  | some l =>
   refine ite2 (fun z=>by cases z) fun _=>hR _ _ ?_
   rw [nw.qu (by rw [hq]; simp)] at e0
   walk_at "rd"
   refine ⟨_,we_at G7 hx,?_⟩
   refine zed (.of (G7.ht w0 win)) (v:=lV w0.ql) rfl ?_
   rw [show lV w0.ql = .ref l by rw [hq]; rfl]
   walk_at "rd"
   have R0:=G7.hg w0 win l hq
   refine ⟨⟨_,.of R0.hl⟩,fun L2 hL2=>?_⟩
   exact zlr (·.1) R0 hL2 (ql w0 win) (fun p g H' Z hp q=>⟨_,rfl,zed (.of hp) (v:=.int g.1) rfl q⟩) fun H' s' hDl=>k _ _ (s7.trans s') (by rw [e0]; exact ⟨L2,rfl,hDl⟩) fun l' z=>by cases z; exact no7 hL2
theorem zpu {α:Type} [DecidableEq α]:∀ {l k:List α},l.Nodup->(∀ x∈l,x∈k)->l.length<=k.length
 | [],_,_,_=>Nat.zero_le _
 | x :: r,k,nd,h=>by
  rw [List.nodup_cons] at nd
  have ih:=zpu (l:=r) (k:=k.erase x) nd.2 fun y hy=>by
   have:y≠x:=fun z=>nd.1 (z ▸ hy)
   exact (List.mem_erase_of_ne this).mpr (h y (List.mem_cons_of_mem _ hy))
  have hx:=h x (List.mem_cons_self ..)
  have:=List.length_erase_of_mem hx
  have p:0<k.length:=List.length_pos_of_mem hx
  rw [List.length_cons]
  omega
def qwer:Str:=Str.ofString "qwertyuiopasdfghjklzxcvbnm"
theorem zsw:∀ c∈qwer.cps.toList,c∈lets.cps.toList:=by decide +kernel
theorem qwer_nd:qwer.cps.toList.Nodup:=by decide +kernel
theorem zpv:qwer.cps.toList.length = 26:=by decide +kernel
theorem zws {a:Str} {c d:Nat} (h:a++sg c=a++sg d):c=d:=by
 have h:(a++sg c).cps.toList=(a++sg d).cps.toList:=by rw [h]
 have e:∀ c,(a++sg c).cps.toList=a.cps.toList++[c]:=fun c=>by
  show (a.cps++#[c]).toList = _
  simp
 rw [e,e] at h
 have:=List.append_cancel_left h
 simpa using this
theorem filt2 {α:Type} (p:α->Bool):∀ l:List α,(l.filter p).length+(l.filter fun a=>!p a).length=l.length
 | []=>rfl
 | x :: r=>by
  have ih:=filt2 p r
  rw [List.filter_cons,List.filter_cons]
  cases p x
  ·simp only [Bool.not_false,if_true,Bool.false_eq_true,if_false,List.length_cons]; omega
  ·simp only [Bool.not_true,if_true,Bool.false_eq_true,if_false,List.length_cons]; omega
def freeF (hd:Str) (ws:List WE):List Nat:=qwer.cps.toList.filter fun c=>(wfn ws (hd++sg c)).isNone
theorem zug (hd:Str) (ws:List WE) (h:ws.length<=12):3<=(freeF hd ws).length:=by
 have a:(qwer.cps.toList.filter fun c=>!(wfn ws (hd++sg c)).isNone).length<=ws.length:=by
  have nd:((qwer.cps.toList.filter fun c=>!(wfn ws (hd++sg c)).isNone).map fun c=>hd++sg c).Nodup:=by
   exact List.pairwise_map.mpr (List.Pairwise.imp (fun h e=>h (zws e)) (qwer_nd.filter _))
  have:=zpu (k:=ws.map (·.nm)) nd fun y hy=>by
   obtain ⟨c,hc,rfl⟩:=List.mem_map.mp hy
   have:=(List.mem_filter.mp hc).2
   cases e:wfn ws (hd++sg c) with
   | none=>rw [e] at this; cases this
   | some w=>exact List.mem_map.mpr ⟨w,(zfv e).1,(zfv e).2⟩
  rw [List.length_map,List.length_map] at this
  exact this
 have b:=filt2 (fun c=>(wfn ws (hd++sg c)).isNone) qwer.cps.toList
 rw [zpv] at b
 unfold freeF
 omega
def zwt:Sp:=fun vs H Q _=>∃ (wd l:Addr) (D:TD) (ws:List WE) (xs:List Int),vs = [.ref wd,.ref l]/\WdOk H wd ws/\D.Wf/\Mt D ws/\ws.length<=12/\H l=some (.lst (xs.map V.int))/\7<=xs.length/\(∀ x∈xs,0<=x)/\∀ z H',Same H H'->zec z->fndN D.ns z=none->wfn ws z=none->Q (.str z) H'
theorem zon (T:Txt K mg c_NoName c_Taken c_NoClass c_NoPlace c_NoShare c_NoLength c_Members c_Chooser c_Starts c_Rounds c_Node c_Tree):Def P w K mg base (CXX P w) 1 "_law_name" ["_law_world", "_law_xs"] zwt:=by
 refine T.src__law_name.okN (k:=0) sc__law_name (fun vs H Q E h=>?_) (fun f cdv A outer s H vs Q E hr h=>?_)
 ·obtain ⟨wd,l,D,ws,xs,rfl,_⟩:=h
  rfl
 ·obtain ⟨wd,l,D,ws,xs,rfl,G,W,M,wl,hl,lx,px,k⟩:=h
  refine ⟨_,(zad (zbg (i:=2) sc__law_name.nd rfl (by first|left;rfl|right;rfl) zbd) (zad (zbg (i:=3) sc__law_name.nd rfl (by first|left;rfl|right;rfl) (zfw zxy (pv 2) ziq (zgs (pe_op zde (pe_ix (zbe K rfl) (pv 1) zak (fun _ _=>rfl)) zak)))) (zaf (zar (pe_ix (zbe K rfl) (pe_lc ["_law_sign"] [("_law_world", 0),("_law_head", 3)] rfl (by with_unfolding_all rfl) (by decide +kernel) rfl (by decide +kernel) (by exact ⟨rfl,⟨rfl,True.intro⟩⟩) (by with_unfolding_all rfl) ⟨⟨rfl,rfl,rfl⟩,⟨⟨rfl,rfl,rfl⟩,True.intro⟩⟩ (zuy (pv 2)) (fun _ _ _=>(zbs (i:=0) (show (["_law_sign", "_law_world", "_law_head"]:List Str).Nodup from by decide +kernel) rfl (by first|left;rfl|right;rfl))) (fun _ _ _=>(zpa (zgk (zeo (hu_of hr) (pe_op zkj (pv 2) (pv 0)) (pv 1))))) (fun _ _ _=>(pe_op zkj (pv 2) (pv 0)))) (pe_op zde (pe_ix (zbe K rfl) (pv 1) zak (fun _ _=>rfl)) zak) (fun _ _=>rfl)))))),?_⟩
  show tSeq _ _ _ [some (.ref wd),some (.ref l),none,none] H
  refine zae fun R hR=>?_
  walk_at "rd"
  refine hR _ _ ?_
  clear hR
  refine zae fun R hR=>?_
  walk_at "rd"
  refine ixNum 5 hl (by omega) fun y5 m5=>⟨_,rfl,?_⟩
  have h0:=Int.emod_nonneg y5 (show (7:Int)≠0 by decide)
  have h1:=Int.emod_lt_of_pos y5 (show (0:Int)<7 by decide)
  refine ⟨_,rfl,zfq (by decide +kernel),hR _ _ ?_⟩
  clear hR
  obtain ⟨hz,hd,eh,hm,hlen⟩:∃ hz hd:Str,Txt.slice (Str.ofString "qwertyuiopasdfghjklzxcvbnm") none (some (y5 % 7))=hd/\(∀ c∈hd.cps.toList,c∈lets.cps.toList)/\hd.length<=6/\(hd=Str.ofString "" \/ ∃ r,hd.cps.toList = 113 :: r):=by
   have:y5 % 7 = 0\/y5 % 7 = 1\/y5 % 7 = 2\/y5 % 7 = 3\/y5 % 7 = 4\/y5 % 7 = 5\/y5 % 7 = 6:=by omega
   rcases this with e | e | e | e | e | e | e <;> rw [e]
   ·exact ⟨Str.ofString "", Str.ofString "", by decide +kernel,by decide +kernel,by decide +kernel,.inl rfl⟩
   ·exact ⟨Str.ofString "", Str.ofString "q", by decide +kernel,by decide +kernel,by decide +kernel,.inr ⟨_,rfl⟩⟩
   ·exact ⟨Str.ofString "", Str.ofString "qw", by decide +kernel,by decide +kernel,by decide +kernel,.inr ⟨_,rfl⟩⟩
   ·exact ⟨Str.ofString "", Str.ofString "qwe", by decide +kernel,by decide +kernel,by decide +kernel,.inr ⟨_,rfl⟩⟩
   ·exact ⟨Str.ofString "", Str.ofString "qwer", by decide +kernel,by decide +kernel,by decide +kernel,.inr ⟨_,rfl⟩⟩
   ·exact ⟨Str.ofString "", Str.ofString "qwert", by decide +kernel,by decide +kernel,by decide +kernel,.inr ⟨_,rfl⟩⟩
   ·exact ⟨Str.ofString "", Str.ofString "qwerty", by decide +kernel,by decide +kernel,by decide +kernel,.inr ⟨_,rfl⟩⟩
  rw [eh]
  obtain ⟨hl6,hq⟩:=hlen
  walk_at "rd"
  simp only [iStr]
  walk_at "rd"
  intro L hL
  show CompG _ _ _ _ L [none,some (.ref wd),some (.str hd)] _ _
  have sgl:∀ c,(hd++sg c).length=hd.length+1:=fun c=>by rw [Sw.app_len]; rfl
  refine zpn (fun i τ H'=>(∃ v,τ = [v,some (.ref wd),some (.str hd)])/\Same H H'/\H' L=some (.lst ((((qwer.cps.toList.take i).filter fun c=>(wfn ws (hd++sg c)).isNone).map fun c=>hd++sg c).map V.str))) ⟨⟨none,rfl⟩,zai hL,zab⟩ ?_ ?_
  ·rintro i c τ H' hc ⟨⟨v,rfl⟩,s',hLl⟩
   have hc:qwer.cps.toList[i]? = some c:=hc
   have hi:=(List.getElem?_eq_some_iff.mp hc).1
   have hi:i<26:=by rw [<- zpv]; exact hi
   walk_at "rd"
   refine ⟨zfq (by have:(sg c).length = 1:=rfl; omega),?_⟩
   refine ⟨_,DGet.k (k:=Sum.inr (hd++sg c)) (s' _ _ G.hd),?_⟩
   rw [zfn]
   have ta:(qwer.cps.toList.take (i+1)).filter (fun c=>(wfn ws (hd++sg c)).isNone)=(qwer.cps.toList.take i).filter (fun c=>(wfn ws (hd++sg c)).isNone)++(if (wfn ws (hd++sg c)).isNone=true then [c] else []):=by
    rw [zfm hc,List.filter_append,List.filter_cons,List.filter_nil]
   cases e:wfn ws (hd++sg c) with
   | none =>
    refine ⟨zfq (by have:(sg c).length = 1:=rfl; omega),?_⟩
    refine ⟨_,hLl,zfl (by
     rw [List.length_map,List.length_map]
     have:=List.length_filter_le (fun c=>(wfn ws (hd++sg c)).isNone) (qwer.cps.toList.take i)
     rw [List.length_take] at this
     omega),fun b o e=>?_,?_⟩
    ·rw [zah (zao e hL)]; exact s' _ _ e
    ·rw [zab,ta,e,if_pos (show (none:Option WE).isNone=true from rfl),List.map_append,List.map_append]; rfl
   | some w1 =>
    refine ⟨s',?_⟩
    rw [ta,e,if_neg (by simp),List.append_nil]; exact hLl
  ·rintro τ H1 ⟨_,s1,hLl⟩
   have e26:(Str.ofString "qwertyuiopasdfghjklzxcvbnm").length=qwer.cps.toList.length:=by decide +kernel
   rw [e26,List.take_length] at hLl
   have fl:=zug hd ws wl
   refine ixNum 6 (s1 _ _ hl) (by omega) fun y6 m6=>⟨_,rfl,?_⟩
   have g0:=Int.emod_nonneg y6 (show (3:Int)≠0 by decide)
   have g1:=Int.emod_lt_of_pos y6 (show (0:Int)<3 by decide)
   refine ixW (ks:=(freeF hd ws).map fun c=>hd++sg c) hLl g0 (by rw [List.length_map]; omega) fun z hz=>?_
   obtain ⟨c,hc,rfl⟩:=List.mem_map.mp hz
   obtain ⟨c1,c2⟩:=List.mem_filter.mp hc
   have wn:wfn ws (hd++sg c)=none:=Option.isNone_iff_eq_none.mp c2
   have cps:(hd++sg c).cps.toList=hd.cps.toList++[c]:=by
    show (hd.cps++#[c]).toList = _
    simp
   have nr:hd++sg c≠road:=fun e=>by
    have e2:(hd++sg c).cps.toList=road.cps.toList:=by rw [e]
    rw [cps] at e2
    rcases hq with q | ⟨r,q⟩
    ·rw [q] at e2
     have:([c]:List Nat) = [114,111,97,100]:=e2
     cases this
    ·rw [q] at e2
     have:113 :: (r++[c]) = [114,111,97,100]:=e2
     cases this
   have nok:zec (hd++sg c):=by
    refine ⟨⟨by rw [sgl]; omega,by rw [sgl]; omega⟩,fun d hd'=>?_⟩
    rw [cps] at hd'
    rcases List.mem_append.mp hd' with q | q
    ·exact hm d q
    ·rw [List.mem_singleton.mp q]; exact zsw c c1
   rcases M.fnd W nr with ⟨q1,_⟩ | ⟨_,w1,_,q2,_⟩
   ·exact k _ _ s1 nok q1 wn
   ·rw [wn] at q2; cases q2
def zyi:Sp:=fun vs H Q _=>∃ (l:Addr) (m:Int) (xs:List Int),vs = [.int m,.ref l]/\1<=m/\H l=some (.lst (xs.map V.int))/\4<=xs.length/\∀ z H',Same H H'->Q (.int z) H'
theorem zls (T:Txt K mg c_NoName c_Taken c_NoClass c_NoPlace c_NoShare c_NoLength c_Members c_Chooser c_Starts c_Rounds c_Node c_Tree):Def P w K mg base (CXX P w) 1 "_law_length" ["_law_most", "_law_xs"] zyi:=by
 refine T.src__law_length.okN (k:=0) sc__law_length (fun vs H Q E h=>?_) (fun f cdv A outer s H vs Q E hr h=>?_)
 ·obtain ⟨l,m,xs,rfl,_⟩:=h
  rfl
 ·obtain ⟨l,m,xs,rfl,m1,hl,lx,k⟩:=h
  refine ⟨_,(zad (zbg (i:=2) sc__law_length.nd rfl (by first|left;rfl|right;rfl) (zea (zaa (pe_op zew zak (pe_op zde (pe_ix (zbe K rfl) (pv 1) zak (fun _ _=>rfl)) (pv 0))) (zaa (pe_op zew zak (pe_op zde (pe_ix (zbe K rfl) (pv 1) zak (fun _ _=>rfl)) (pv 0))) (zaa (pe_op zew zak (pe_op zde (pe_ix (zbe K rfl) (pv 1) zak (fun _ _=>rfl)) (zbq (zrb rfl) rfl T.no_min boot_min (zaa (pv 0) (zaa zak zag))))) (zaa (pv 0) (zaa zak (zaa zak (zaa (pe_op zxh (pe_un zov zak) (pe_op zde (pe_ix (zbe K rfl) (pv 1) zak (fun _ _=>rfl)) zak)) (zaa (pe_op zew (pv 0) zak) zag)))))))))) (zaf (zar (pe_ix (zbe K rfl) (pv 2) (pe_op zde (pe_ix (zbe K rfl) (pv 1) zak (fun _ _=>rfl)) zak) (fun _ _=>rfl))))),?_⟩
  show tSeq _ _ _ [some (.int m),some (.ref l),none] H
  refine zae fun R hR=>?_
  walk_at "rd"
  refine ixNum 2 hl (by omega) fun y1 _=>⟨_,rfl,by omega,?_⟩
  refine ixNum 2 hl (by omega) fun y2 _=>⟨_,rfl,by omega,?_⟩
  refine ixNum 2 hl (by omega) fun y3 _=>⟨_,rfl,by split <;> omega,?_⟩
  refine ixNum 2 hl (by omega) fun y4 _=>⟨_,rfl,fun p hp=>hR _ _ ?_⟩
  clear hR
  walk_at "rd"
  have s1:=zai (o:=.lst [.int (1+y1 % m),.int (1+y2 % m),.int (1+y3 % if 3<m then 3 else m),.int m,.int 1,.int 0,.int (-1-y4 % 9),.int (m+1)]) hp
  refine ixNum 3 (s1 _ _ hl) (by omega) fun y5 _=>⟨_,rfl,?_⟩
  exact pickI [_,_,_,_,_,_,_,_] (Int.emod_nonneg _ (by decide)) (Int.emod_lt_of_pos _ (by decide)) fun z=>k z _ s1
structure LJ (C:Cl) (wd t:Addr) (i:Nat) (H:Hp) (D:TD) (ws:List WE):Prop where
 O:TrOk C H D
 W:D.Wf
 F:∀ n∈D.ns,∀ c,n.ch=some c->c.2.sz<=3*i
 G:WdOk H wd ws
 M:Mt D ws
 nw:wd ∉ D.foot
 nl:∀ l∈lists ws,l ∉ D.foot
 ld:(lists ws).Nodup
 p:D.p=t
 wl:ws.length<=12
 ln:D.ns.length=ws.length+1
 ql:∀ n∈D.ns,n.ps.length<=i/\(n.rm = .non\/∃ r,n.rm = .int r)
 qw:∀ w∈ws,w.ps.length<=i
 tm:D.tm = 0
 gs:D.gs = []
 dp:∀ w∈ws,w.ab≠road->∃ w',wfn ws w.ab=some w'/\w'.ab=road
theorem LJ.same {C:Cl} {wd t:Addr} {i:Nat} {H H':Hp} {D:TD} {ws:List WE} (h:LJ C wd t i H D ws) (s:Same H H'):LJ C wd t i H' D ws:=⟨h.O.same s,h.W,h.F,h.G.same s,h.M,h.nw,h.nl,h.ld,h.p,h.wl,h.ln,h.ql,h.qw,h.tm,h.gs,h.dp⟩
theorem LJ.fit {C:Cl} {wd t:Addr} {i:Nat} {H:Hp} {D:TD} {ws:List WE} (h:LJ C wd t i H D ws) (hi:i<=60):D.fit:=⟨by have:=h.ln; have:=h.wl; omega,fun n hn c hc=>Nat.le_trans (h.F n hn c hc) (by omega)⟩
theorem LJ.next {C:Cl} {wd t:Addr} {i:Nat} {H:Hp} {D:TD} {ws:List WE} (h:LJ C wd t i H D ws):LJ C wd t (i+1) H D ws:=⟨h.O,h.W,fun n hn c hc=>Nat.le_trans (h.F n hn c hc) (by omega),h.G,h.M,h.nw,h.nl,h.ld,h.p,h.wl,h.ln,fun n hn=>⟨Nat.le_succ_of_le (h.ql n hn).1,(h.ql n hn).2⟩,fun w hw=>Nat.le_succ_of_le (h.qw w hw),h.tm,h.gs,h.dp⟩
theorem mem_lists {ws:List WE} {l:Addr}:l∈lists ws↔∃ w∈ws,w.ql=some l:=by
 unfold lists
 rw [List.mem_filterMap]
theorem LJ.rms {C:Cl} {wd t:Addr} {i:Nat} {H:Hp} {D:TD} {ws:List WE} (h:LJ C wd t i H D ws):∀ w∈ws,w.rm = .non\/∃ r,w.rm = .int r:=by
 obtain ⟨r,rest,e,p⟩:=h.M
 have:∀ {l:List ND} {ws:List WE},Paired NW l ws->(∀ n∈l,n.rm = .non\/∃ r,n.rm = .int r)->∀ w∈ws,w.rm = .non\/∃ r,w.rm = .int r:=fun {l ws} p=>by
  induction p with
  | nil=>intro _ w hw; cases hw
  | cons a b ih =>
   intro hl w hw
   rcases List.mem_cons.mp hw with q | q
   ·rw [q,<- a.rm]; exact hl _ (List.mem_cons_self ..)
   ·exact ih (fun n hn=>hl n (List.mem_cons_of_mem _ hn)) w q
 exact this p fun n hn=>(h.ql n (by rw [e]; exact List.mem_cons_of_mem _ hn)).2
theorem Mt.nd {D:TD} {ws:List WE} (h:Mt D ws) (W:D.Wf):(ws.map (·.nm)).Nodup:=by
 obtain ⟨r,rest,e,p⟩:=h
 have nn:=W.nn
 rw [e,List.map_cons,List.nodup_cons] at nn
 have eq:∀ {l:List ND} {ws:List WE},Paired NW l ws->l.map (·.nm)=ws.map (·.nm):=fun {l ws} p=>by
  induction p with
  | nil=>rfl
  | cons a b ih=>rw [List.map_cons,List.map_cons,ih,a.nm]
 rw [<- eq p]
 exact nn.2
theorem zpw {ws:List WE} (nd:(ws.map (·.nm)).Nodup) {w:WE} (h:w∈ws):wfn ws w.nm=some w:=by
 induction ws with
 | nil=>cases h
 | cons y r ih =>
  rw [List.map_cons,List.nodup_cons] at nd
  unfold wfn
  rw [List.find?_cons]
  rcases List.mem_cons.mp h with e | e
  ·subst e; simp
  ·have ne:decide (y.nm=w.nm)=false:=decide_eq_false fun z=>nd.1 (by rw [z]; exact List.mem_map.mpr ⟨w,e,rfl⟩)
   rw [ne]
   exact ih nd.2 e
theorem zwu {ws:List WE} {w:WE} (h:wfn ws w.nm=none) (y:Str):wfn (ws++[w]) y=if y=w.nm then some w else wfn ws y:=by
 unfold wfn at h ⊢
 rw [List.find?_append]
 by_cases e:y=w.nm
 ·subst e
  rw [if_pos rfl,h]; simp
 ·rw [if_neg e]
  have:([w].find? fun v=>decide (v.nm=y))=none:=by
   have:¬ w.nm=y:=fun z=>e z.symm
   simp [this]
  rw [this]; simp
theorem zwv {ws:List WE} {w:WE} (h:wfn ws w.nm=none):putK (weK ws) (Sum.inr w.nm:Key) (.ref w.q)=weK (ws++[w]):=by
 unfold putK
 have e:((weK ws).any fun kv=>decide (kv.1=(Sum.inr w.nm:Key)))=false:=by
  rw [zfk,zfn,h]; rfl
 rw [e,if_neg (by decide)]
 unfold weK
 rw [List.map_append]; rfl
theorem zkr {D:TD} (nn:(D.ns.map (·.nm)).Nodup) {un un':ND} (hu:un∈D.ns) (en:un'.nm=un.nm) (ok:∀ w,NW un w->NW un' w) {l:List ND} {ws:List WE} (hl:∀ y∈l,y∈D.ns) (p:Paired NW l ws):Paired NW (setN l un') ws:=by
 induction p with
 | nil=>exact .nil
 | @cons y v l ws a b ih =>
  refine .cons ?_ (ih fun z hz=>hl z (List.mem_cons_of_mem _ hz))
  show NW (if y.nm=un'.nm then un' else y) v
  by_cases q:y.nm=un'.nm
  ·have:y=un:=by
    have h1:=zee nn (hl y (List.mem_cons_self ..))
    rw [q,en,zee nn hu] at h1
    exact (Option.some.inj h1).symm
   subst this
   rw [if_pos q]; exact ok v a
  ·rw [if_neg q]; exact a
theorem PutOk.mt {C:Cl} {D D':TD} {x u kd:Str} {s:Int} {rm:V} {H H':Hp} {ws:List WE} (h:PutOk C D x u kd s rm H H' D') (ok:kdOk kd) (M:Mt D ws) (W:D.Wf) (q:Addr) (ql:Option Addr) (eq:ql≠none↔kd=Str.ofString "leaf"):Mt D' (ws++[⟨x,q,u,ql,rm,[],[]⟩]):=by
 obtain ⟨un,c,n,rfl,hu,hc,h1,h2,h3,h4,h5,h6,h7,h8,h9,h10,h11⟩:=h
 obtain ⟨r,rest,e,p⟩:=M
 obtain ⟨uin,une⟩:=zbm hu
 refine ⟨if r.nm=un.nm then { un with ch:=some (c.1,c.2.put n.nm s) } else r,setN rest { un with ch:=some (c.1,c.2.put n.nm s) }++[n],?_,?_⟩
 ·show setN D.ns _++[n] = _
  rw [e]; rfl
 ·refine zez (F:=NW) ⟨h1,h2,?_,fun _=>h6,h3,fun _=>h6⟩ (zkr (un':={ un with ch:=some (c.1,c.2.put n.nm s) }) W.nn uin rfl (fun w a=>?_) (fun y hy=>by rw [e]; exact List.mem_cons_of_mem _ hy) p)
  ·show n.ch=none↔ql≠none
   rw [eq]
   constructor
   ·intro z
    rcases ok with y | y
    ·exact y
    ·obtain ⟨a,e⟩:=h8 y
     rw [z] at e; cases e
   ·exact h7
  ·have lf:¬ w.ql≠none:=fun z=>by
    have:=a.lf.mpr z
    rw [hc] at this; cases this
   exact ⟨a.nm,a.ab,⟨fun z=>(by cases z),fun z=>absurd z lf⟩,fun z=>absurd z lf,a.rm,a.em⟩
structure Stp (D:TD) (ws:List WE) (wd:Addr) (H H':Hp) (D':TD) (ws':List WE):Prop where
 kp:∀ b o,b ∉ D.foot->b≠wd->b ∉ lists ws->H b=some o->H' b=some o
 fr:∀ b,b∈D'.foot\/b∈lists ws'->b∈D.foot\/b∈lists ws\/H b=none
theorem zww {H H':Hp} {b:Addr} (s:Same H H') (e:H' b=none):H b=none:=by
 cases z:H b with
 | none=>rfl
 | some o=>rw [s _ _ z] at e; cases e
theorem Stp.pre {D D':TD} {ws ws':List WE} {wd:Addr} {H0 H H':Hp} (h:Stp D ws wd H H' D' ws') (s:Same H0 H):Stp D ws wd H0 H' D' ws':=⟨fun b o n1 n2 n3 e=>h.kp b o n1 n2 n3 (s _ _ e),fun b hb=>(h.fr b hb).imp id fun q=>q.imp id fun e=>zww s e⟩
theorem Stp.post {D D':TD} {ws ws':List WE} {wd:Addr} {H H1 H':Hp} (h:Stp D ws wd H H1 D' ws') (s:Same H1 H'):Stp D ws wd H H' D' ws':=⟨fun b o n1 n2 n3 e=>s _ _ (h.kp b o n1 n2 n3 e),h.fr⟩
theorem Stp.refl {D:TD} {ws:List WE} {wd:Addr} {H H':Hp} (s:Same H H'):Stp D ws wd H H' D ws:=⟨fun b o _ _ _ e=>s _ _ e,fun b hb=>hb.imp id .inl⟩
def zyj (C:Cl):Sp:=fun vs H Q _=>∃ (wd t l:Addr) (i:Nat) (D:TD) (ws:List WE) (xs:List Int),vs = [.ref t,.ref wd,.ref l]/\LJ C wd t i H D ws/\i<=60/\ws.length<12/\H l=some (.lst (xs.map V.int))/\7<=xs.length/\(∀ x∈xs,0<=x)/\∀ D' ws' H',LJ C wd t (i+1) H' D' ws'->D'.ct=D.ct->Stp D ws wd H H' D' ws'->Q .non H'
theorem zqm (T:Txt K mg c_NoName c_Taken c_NoClass c_NoPlace c_NoShare c_NoLength c_Members c_Chooser c_Starts c_Rounds c_Node c_Tree):Def P w K mg base (CXX P w) 8 "_law_put" ["_law_tree", "_law_world", "_law_xs"] (zyj (⟨c_Node,c_Starts,c_Rounds,c_Members,c_Node,c_Tree⟩:Cl)):=by
 have D__law_name:=zon (P:=P) (w:=w) (base:=base) T
 have M_Tree_put:=zqj (P:=P) (w:=w) (base:=base) T
 refine T.src__law_put.okN (k:=7) sc__law_put (fun vs H Q E h=>?_) (fun f cdv A outer s H vs Q E hr h=>?_)
 ·obtain ⟨wd,t,l,i,D,ws,xs,rfl,_⟩:=h
  rfl
 ·obtain ⟨wd,t,l,i,D,ws,xs,rfl,J,i60,wl,hl,lx,px,k⟩:=h
  refine ⟨_,(zad (zbg (i:=3) sc__law_put.nd rfl (by first|left;rfl|right;rfl) (zbb D__law_name (hr.mono (by decide)) rfl passN (zaa (pv 1) (zaa (pv 2) zag)))) (zad (zbg (i:=4) sc__law_put.nd rfl (by first|left;rfl|right;rfl) (zea (zaa zbd zag))) (zad (zvx PassesOwn.never rfl (pv 1) (zgu (n:=2) K rfl rfl (zct (zbs (i:=5) sc__law_put.nd rfl (by first|left;rfl|right;rfl)) (zct (zbs (i:=6) sc__law_put.nd rfl (by first|left;rfl|right;rfl)) zgr))) (zaf (ps_if (PW.pt (zki (zau zil (pe_ix (zdc K rfl) (pv 6) zak (fun _ _=>rfl)) zdd (zba _)) (zih (zau op_eq (pe_ix (zdc K rfl) (pv 6) zak (fun _ _=>rfl)) zbd (zba _))))) (zaf (zav (pe_bm PySem.F.plainAttrs_list PySem.F.slot_list_append PySem.F.type_list_append zen (pv 4) (zaa (pv 5) zag)))) zaq))) (zad (zbg (i:=7) sc__law_put.nd rfl (by first|left;rfl|right;rfl) (pe_ix (zbe K rfl) (pv 4) (pe_op zde (pe_ix (zbe K rfl) (pv 2) zak (fun _ _=>rfl)) (zbq (zfe K rfl) rfl T.no_len boot_len (zaa (pv 4) zag))) (fun _ _=>rfl))) (zad (zbg (i:=8) sc__law_put.nd rfl (by first|left;rfl|right;rfl) (pe_ix (zbe K rfl) (zea (zaa zdd (zaa (pe_op zde (pe_ix (zbe K rfl) (pv 2) zak (fun _ _=>rfl)) (pe_op zew zak (pe_op znp zak (zas (pv 0) rfl)))) (zaa (pe_op zde (pe_ix (zbe K rfl) (pv 2) zak (fun _ _=>rfl)) zak) (zaa zdd zag))))) (pe_op zde (pe_ix (zbe K rfl) (pv 2) zak (fun _ _=>rfl)) zak) (fun _ _=>rfl))) (zad (zbg (i:=9) sc__law_put.nd rfl (by first|left;rfl|right;rfl) (pe_ix (zbe K rfl) (zea (zaa zbd (zaa zbd (zaa zbd (zaa zbd zag))))) (pe_op zde (pe_ix (zbe K rfl) (pv 2) zak (fun _ _=>rfl)) zak) (fun _ _=>rfl))) (zad (zav (zaw (dvs:=[]) M_Tree_put (by simp) T.cl_Tree (hr.mono (by decide)) passN (pv 0) (zaa (pv 3) (zaa (pv 7) (zaa (pv 9) (zaa (pe_op zew zak (pe_op zde (pe_ix (zbe K rfl) (pv 2) zak (fun _ _=>rfl)) (pe_op zun zak zak))) (zaa (pv 8) zag))))))) (zad (zbg (i:=10) sc__law_put.nd rfl (by first|left;rfl|right;rfl) zdd) (zad (ps_if (zau op_eq (pv 9) zbd (zba _)) (zaf (zbg (i:=10) sc__law_put.nd rfl (by first|left;rfl|right;rfl) (zea zag))) zaq) (zaf (zhv (hu_of hr) (pv 1) (pv 3) (zdh (zaa (pv 7) (zaa (pv 10) (zaa (pv 8) zag)))) rfl))))))))))),?_⟩
  show tSeq _ _ _ [some (.ref t),some (.ref wd),some (.ref l),none,none,none,none,none,none,none,none] H
  refine zae fun R hR=>?_
  walk_at "rd"
  refine ⟨wd,l,D,ws,xs,rfl,J.G,J.W,J.M,by omega,hl,lx,px,fun z H1 s1 nok fz wz=>hR _ _ ?_⟩
  clear hR
  have J:=J.same s1
  have hl:=s1 _ _ hl
  have k:∀ D' ws' H',LJ (⟨c_Node,c_Starts,c_Rounds,c_Members,c_Node,c_Tree⟩:Cl) wd t (i+1) H' D' ws'->D'.ct=D.ct->Stp D ws wd H1 H' D' ws'->Q .non H':=fun D' ws' H' a b c=>k D' ws' H' a b (c.pre s1)
  clear s1
  refine zae fun R hR=>?_
  walk_at "rd"
  intro pl hpl
  refine hR _ _ ?_
  clear hR
  have s2:=zai (o:=.lst [.str (Str.ofString "road")]) hpl
  have h2:upd H1 pl (.lst [.str (Str.ofString "road")]) pl=some (.lst ([road].map V.str)):=zab
  have J2:=J.same s2
  have npl:pl ∉ D.foot:=J.O.free hpl
  refine (show tSeq _ _ _ [some (.ref t),some (.ref wd),some (.ref l),some (.str z),some (.ref pl),none,none,none,none,none,none] (upd H1 pl (.lst [.str (Str.ofString "road")])) from ?_)
  generalize upd H1 pl (.lst [.str (Str.ofString "road")])=H2 at s2 h2 J2 ⊢
  have nlists:pl ∉ lists ws:=fun q=>by
   obtain ⟨w,hw,e⟩:=mem_lists.mp q
   have:=(J.G.hg w hw pl e).hl
   rw [hpl] at this; cases this
  refine zae fun R hR=>?_
  refine ⟨_,rfl,wd,_,rfl,J2.G.hd,fun o=>?_⟩
  have nq:∀ w∈ws,w.q≠wd:=fun w0 win z=>by have ht:=J2.G.ht w0 win; rw [z,J2.G.hd] at ht; cases ht
  have pw:pl≠wd:=fun z=>by rw [z,J.G.hd] at hpl; cases hpl
  refine zsm (kvs:=weK ws) (fun i σ H'=>∃ v5 v6 ps,σ = [some (.ref t),some (.ref wd),some (.ref l),some (.str z),some (.ref pl),v5,v6,none,none,none,none]/\(∀ b o,b≠wd->b≠pl->H2 b=some o->H' b=some o)/\H' wd=some (.frz o (.dK (weK ws)))/\H' pl=some (.lst ((ps:List Str).map V.str))/\ps.length<=i+1/\0<ps.length/\(∀ y∈ps,y=road\/∃ w',wfn ws y=some w'/\w'.ab=road/\w'.ql=none)) ⟨none,none,[road],rfl,fun b o n1 _ e=>by rw [zah n1]; exact e,zab,by rw [zah pw]; exact h2,by simp,by simp,fun y hy=>.inl (List.mem_singleton.mp hy)⟩ (fun i σ H' _ ⟨_,_,_,_,_,h,_⟩=>h) ?_ ?_
  ·rintro i kv σ H6 p hkv ⟨v5,v6,ps,rfl,kp,hz,hps,lps,pps,okp⟩ hp
   obtain ⟨w1,hw,rfl⟩:∃ w1,ws[i]? = some w1/\((Sum.inr w1.nm:Key),V.ref w1.q)=kv:=by
    unfold weK at hkv
    rw [List.getElem?_map] at hkv
    cases e:ws[i]? with
    | none=>rw [e] at hkv; cases hkv
    | some p=>rw [e] at hkv; exact ⟨p,rfl,Option.some.inj hkv⟩
   have win:=List.mem_of_getElem? hw
   have hi:i<12:=by
    have:=(List.getElem?_eq_some_iff.mp hw).1
    omega
   have sn:=zai (o:=.tup [kV (Sum.inr w1.nm:Key),V.ref w1.q]) hp
   have kp:∀ b o,b≠wd->b≠pl->H2 b=some o->upd H6 p (.tup [kV (Sum.inr w1.nm:Key),V.ref w1.q]) b=some o:=fun b o n1 n2 e=>sn _ _ (kp b o n1 n2 e)
   have hz:=sn _ _ hz
   have hps:=sn _ _ hps
   refine ⟨p,_,rfl,.of zab,rfl,_,_,rfl,_,_,rfl,rfl,?_⟩
   refine ziy fun N hN=>?_
   show tIfS _ _ _ _ [some (.ref t),some (.ref wd),some (.ref l),some (.str z),some (.ref pl),some (.str w1.nm),some (.ref w1.q),none,none,none,none] _
   generalize upd H6 p (.tup [kV (Sum.inr w1.nm:Key),V.ref w1.q])=H7 at kp hz hps ⊢
   have nqp:w1.q≠pl:=fun z=>by have ht:=J2.G.ht w1 win; rw [z,h2] at ht; cases ht
   have ht:=kp _ _ (nq w1 win) nqp (J2.G.ht w1 win)
   have on:N [some (.ref t),some (.ref wd),some (.ref l),some (.str z),some (.ref pl),some (.str w1.nm),some (.ref w1.q),none,none,none,none] H7:=hN _ _ ⟨_,_,ps,rfl,kp,hz,hps,by omega,pps,okp⟩
   walk_at "rd"
   refine zed (.of ht) (v:=lV w1.ql) rfl ?_
   cases hq:w1.ql with
   | some l1=>exact ite2 (fun z=>by cases z) fun _=>on
   | none =>
   refine ite2 (fun _=>?_) fun z=>absurd rfl z
   refine zed (.of ht) (v:=.str w1.ab) rfl ?_
   refine ⟨rfl,ite2 (fun c1=>?_) fun c1=>on⟩
   have c1:w1.ab=road:=V.str.inj c1
   refine ⟨zgl hps,zix hps (by rw [List.length_map]; omega) (hN _ _ ?_)⟩
   refine ⟨_,_,ps++[w1.nm],rfl,fun b o n1 n2 e=>by rw [zah n2]; exact kp b o n1 n2 e,by rw [zah pw.symm]; exact hz,by rw [zab,List.map_append]; rfl,by rw [List.length_append]; show ps.length+1<=_; omega,by rw [List.length_append]; omega,fun y hy=>?_⟩
   rcases List.mem_append.mp hy with q | q
   ·exact okp y q
   ·rw [List.mem_singleton.mp q]
    exact .inr ⟨w1,zpw (J.M.nd J.W) win,c1,hq⟩
  rintro σ H6 ⟨v5,v6,ps,rfl,kp,hz,hps,lps,pps,okp⟩
  refine hR _ _ ?_
  clear hR
  have lk:(weK ws).length=ws.length:=List.length_map _
  rw [lk] at lps
  have pl2:H2 pl≠none:=by rw [h2]; simp
  have k7:∀ b o,H1 b=some o->upd H6 wd (.dK (weK ws)) b=some o:=fun b o e=>by
   by_cases y:b=wd
   ·subst y
    rw [J.G.hd] at e; cases e
    exact zab
   ·rw [zah y]
    exact kp b o y (zao e hpl) (s2 _ _ e)
  have J7:=J.same (H':=upd H6 wd (.dK (weK ws))) k7
  have hps:upd H6 wd (.dK (weK ws)) pl=some (.lst (ps.map V.str)):=by rw [zah pw]; exact hps
  have hl:=k7 _ _ hl
  generalize upd H6 wd (.dK (weK ws))=H7 at k7 J7 hps hl ⊢
  have k:∀ D' ws' H',LJ (⟨c_Node,c_Starts,c_Rounds,c_Members,c_Node,c_Tree⟩:Cl) wd t (i+1) H' D' ws'->D'.ct=D.ct->Stp D ws wd H7 H' D' ws'->Q .non H':=fun D' ws' H' a b c=>k D' ws' H' a b (c.pre k7)
  clear k7 kp hz J2 s2 h2 J hpl npl nlists
  rename_i J0
  refine zae fun R hR=>?_
  walk_at "rd"
  refine ixNum 1 hl (by omega) fun y1 _=>zmi (.of hps) ⟨_,rfl,?_⟩
  rw [List.length_map]
  refine ⟨_,rfl,by omega,?_⟩
  refine ixW hps (Int.emod_nonneg _ (by omega)) (Int.emod_lt_of_pos _ (by omega)) fun ab hab=>hR _ _ ?_
  clear hR
  have hab:=okp ab hab
  obtain ⟨dx,fs,hp,ft⟩:=J7.O.ex
  rw [J7.p] at hp
  have m1:=J7.W.m1
  refine zae fun R hR=>?_
  walk_at "rd"
  refine ixNum 2 hl (by omega) fun y2 _=>zap hp T.cl_Tree T.na_Tree_most ft.mo ⟨_,rfl,⟨Sw.Sz.lit (by decide),(show Sw.Sz 70 D.most from Sw.Sz.r18 (by omega) (by omega)).mono (by decide)⟩,_,rfl,by omega,?_⟩
  refine ixNum 2 hl (by omega) fun y2' _=>⟨_,rfl,?_⟩
  intro q1 g1
  have s8:=zai (o:=.lst [.non,.int (y2 % (1+5*D.most)),.int (y2' % 4),.non]) g1
  refine ixNum 3 (s8 _ _ hl) (by omega) fun y3 _=>⟨_,rfl,?_⟩
  refine pickV [_,_,_,_] (Int.emod_nonneg _ (by decide)) (Int.emod_lt_of_pos _ (by decide)) fun rm hrm=>hR _ _ ?_
  clear hR
  have r0:=Int.emod_nonneg y2 (show (1+5*D.most)≠0 by omega)
  have r1:=Int.emod_nonneg y2' (show (4:Int)≠0 by decide)
  have hrm:rm = .non\/∃ r,rm = .int r/\0<=r:=by
   simp only [List.mem_cons,List.not_mem_nil,or_false] at hrm
   rcases hrm with z | z | z | z
   ·exact .inl z
   ·exact .inr ⟨_,z,r0⟩
   ·exact .inr ⟨_,z,r1⟩
   ·exact .inl z
  have J8:=J7.same s8
  have hl8:=s8 _ _ hl
  have k:∀ D' ws' H',LJ (⟨c_Node,c_Starts,c_Rounds,c_Members,c_Node,c_Tree⟩:Cl) wd t (i+1) H' D' ws'->D'.ct=D.ct->Stp D ws wd (upd H7 q1 (.lst [.non,.int (y2 % (1+5*D.most)),.int (y2' % 4),.non])) H' D' ws'->Q .non H':=fun D' ws' H' a b c=>k D' ws' H' a b (c.pre s8)
  refine (show tSeq _ _ _ [some (.ref t),some (.ref wd),some (.ref l),some (.str z),some (.ref pl),v5,v6,some (.str ab),some rm,none,none] (upd H7 q1 (.lst [.non,.int (y2 % (1+5*D.most)),.int (y2' % 4),.non])) from ?_)
  generalize upd H7 q1 (.lst [.non,.int (y2 % (1+5*D.most)),.int (y2' % 4),.non])=H8 at J8 hl8 k ⊢
  clear s8 g1 hl J7 hps
  refine zae fun R hR=>?_
  walk_at "rd"
  intro q2 g2
  have s9:=zai (o:=.lst ([Str.ofString "leaf", Str.ofString "leaf", Str.ofString "starts", Str.ofString "rounds"].map V.str)) g2
  refine ixNum 4 (s9 _ _ hl8) (by omega) fun y4 _=>⟨_,rfl,?_⟩
  refine ixW (ks:=[Str.ofString "leaf", Str.ofString "leaf", Str.ofString "starts", Str.ofString "rounds"]) zab (Int.emod_nonneg _ (by decide)) (Int.emod_lt_of_pos _ (by decide)) fun kd hkd=>hR _ _ ?_
  clear hR
  have okd:kdOk kd:=by
   simp only [List.mem_cons,List.not_mem_nil,or_false] at hkd
   rcases hkd with q | q | q | q
   ·exact .inl q
   ·exact .inl q
   ·exact .inr (.inl q)
   ·exact .inr (.inr q)
  have J9:=J8.same s9
  have hl9:=s9 _ _ hl8
  have k:∀ D' ws' H',LJ (⟨c_Node,c_Starts,c_Rounds,c_Members,c_Node,c_Tree⟩:Cl) wd t (i+1) H' D' ws'->D'.ct=D.ct->Stp D ws wd (upd H8 q2 (.lst ([Str.ofString "leaf", Str.ofString "leaf", Str.ofString "starts", Str.ofString "rounds"].map V.str))) H' D' ws'->Q .non H':=fun D' ws' H' a b c=>k D' ws' H' a b (c.pre s9)
  refine (show tSeq _ _ _ [some (.ref t),some (.ref wd),some (.ref l),some (.str z),some (.ref pl),v5,v6,some (.str ab),some rm,some (.str kd),none] (upd H8 q2 (.lst ([Str.ofString "leaf", Str.ofString "leaf", Str.ofString "starts", Str.ofString "rounds"].map V.str))) from ?_)
  generalize upd H8 q2 (.lst ([Str.ofString "leaf", Str.ofString "leaf", Str.ofString "starts", Str.ofString "rounds"].map V.str))=H9 at J9 hl9 k ⊢
  clear s9 g2 J8 hl8
  obtain ⟨nr,hnr,har,hcr⟩:=J9.W.rdN
  have Ur:Up D.ns road [road]:=.top hnr har
  obtain ⟨un,hun,hcu,dpu⟩:∃ un,fndN D.ns ab=some un/\un.ch≠none/\∀ ys,Up D.ns ab ys->ys.length<=5:=by
   rcases hab with q | ⟨w',q1,q2,q3⟩
   ·rw [q]
    exact ⟨nr,hnr,hcr,fun ys U=>by rw [<- Ur.det U]; simp⟩
   ·obtain ⟨_,n,q4,nw⟩:=J9.M.inn J9.W q1
    refine ⟨n,q4,fun y=>absurd (nw.lf.mp y) (fun h=>h q3),fun ys U=>?_⟩
    have U2:Up D.ns ab [ab,road]:=.on q4 (by rw [nw.ab,q2]) Ur
    rw [<- U2.det U]; simp
  refine zae fun R hR=>?_
  walk_at "rd"
  obtain ⟨dx,fs,hp,ft⟩:=J9.O.ex
  rw [J9.p] at hp
  refine zbc hp (ft.mis _ (by decide +kernel) (by decide +kernel) (by decide +kernel) (by decide +kernel) (by decide +kernel) (by decide +kernel)) (ixNum 5 hl9 (by omega) fun y5 _=>⟨_,rfl,?_⟩)
  have s0:=Int.emod_nonneg y5 (show (1000000:Int)≠0 by decide)
  have s1:=Int.emod_lt_of_pos y5 (show (0:Int)<1000000 by decide)
  have du:dueP D z ab kd (1+y5 % 1000000) rm=none:=zpq nok fz hun ⟨okd,hcu,dpu⟩ ⟨by omega,by omega⟩ fun ⟨_,r,e,h⟩=>by
   rcases hrm with q | ⟨r',q,h'⟩
   ·rw [q] at e; cases e
   ·rw [q] at e; cases e; omega
  have so:=zps nok
  refine ⟨D,z,ab,kd,1+y5 % 1000000,rm,by rw [J9.p],J9.O,J9.W,J9.fit i60,⟨so.1,by have:=so.2; omega⟩,hrm.imp id (fun ⟨r,q,_⟩=>⟨r,q⟩),fun r e=>(by rw [du] at e; cases e),fun _ un' c' n' H10 h1 h2 h3 h4 h5 h6 h7 h8 h9 h10 h11 h12 h13=>hR _ _ ?_⟩
  clear hR
  have PO:PutOk (⟨c_Node,c_Starts,c_Rounds,c_Members,c_Node,c_Tree⟩:Cl) D z ab kd (1+y5 % 1000000) rm H9 H10 (D.put un' c' (1+y5 % 1000000) n'):=⟨un',c',n',rfl,h1,h2,h3,h4,h5,h6,h7,h8,h9,h10,h11,h12,h13⟩
  have W':=PO.wf J9.W du
  have F':∀ n∈(D.put un' c' (1+y5 % 1000000) n').ns,∀ d,n.ch=some d->d.2.sz<=3*(i+1):=fun n hn d hd=>by
   rcases List.mem_append.mp hn with q | q
   ·rcases zfc q with q | q
    ·rw [q] at hd
     cases hd
     have q1:=zvc c'.2 n'.nm (1+y5 % 1000000)
     have q2:=J9.F un' (zbm h1).1 c' h2
     show (c'.2.put n'.nm (1+y5 % 1000000)).sz<=_
     omega
    ·exact Nat.le_trans (J9.F n q.1 d hd) (by omega)
   ·rw [List.mem_singleton.mp q] at hd
    rcases okd with y | y
    ·rw [h9 y] at hd; cases hd
    ·obtain ⟨a,e⟩:=h10 y
     rw [e] at hd; cases hd
     have:(CSt.new (kdB kd)).sz = 0:=by cases kdB kd <;> rfl
     show (CSt.new (kdB kd)).sz<=_
     rw [this]; omega
  have ft':=PO.foot
  have ln':=PO.len
  have hct:(D.put un' c' (1+y5 % 1000000) n').ct=D.ct:=rfl
  have hpp:(D.put un' c' (1+y5 % 1000000) n').p=t:=J9.p
  have htm:(D.put un' c' (1+y5 % 1000000) n').tm = 0:=J9.tm
  have hgs:(D.put un' c' (1+y5 % 1000000) n').gs = []:=J9.gs
  have hqn:∀ n∈(D.put un' c' (1+y5 % 1000000) n').ns,n.ps.length<=i+1/\(n.rm = .non\/∃ r,n.rm = .int r):=fun n hn=>by
   rcases List.mem_append.mp hn with q | q
   ·rcases zfc q with q | q
    ·rw [q]; exact ⟨Nat.le_succ_of_le (J9.ql un' (zbm h1).1).1,(J9.ql un' (zbm h1).1).2⟩
    ·exact ⟨Nat.le_succ_of_le (J9.ql n q.1).1,(J9.ql n q.1).2⟩
   ·rw [List.mem_singleton.mp q,h7,h5]
    exact ⟨Nat.zero_le _,hrm.imp id (fun ⟨r,q,_⟩=>⟨r,q⟩)⟩
  generalize D.put un' c' (1+y5 % 1000000) n'=D' at PO W' F' ft' ln' hct hpp htm hgs hqn h12
  have tup:∀ {b xs},H9 b=some (.tup xs)->b ∉ D.foot:=fun {b xs} e=>J9.O.notup e
  have nof:∀ {b o},b ∉ D.foot->H9 b=some o->b ∉ D'.foot:=fun {b o} n e y=>by
   rcases ft' b y with q | q
   ·exact n q
   ·rw [e] at q; cases q
  have G10:WdOk H10 wd ws:=⟨h13 _ _ J9.nw J9.G.hd,fun w hw=>h13 _ _ (tup (J9.G.ht w hw)) (J9.G.ht w hw),fun w hw l e=>⟨h13 _ _ (J9.nl l (mem_lists.mpr ⟨w,hw,e⟩)) (J9.G.hg w hw l e).hl,(J9.G.hg w hw l e).r.keep fun p y hp=>h13 _ _ (tup hp) hp⟩⟩
  have hl10:∀ l∈lists ws,l ∉ D'.foot:=fun l hl=>by
   obtain ⟨w,hw,e⟩:=mem_lists.mp hl
   exact nof (J9.nl l hl) (J9.G.hg w hw l e).hl
  refine zae fun R hR=>?_
  walk_at "rd"
  refine hR _ _ ?_
  clear hR
  refine zae fun R hR=>?_
  have fin:∀ (ql:Option Addr) (H11:Hp),Same H10 H11->(ql≠none↔kd=Str.ofString "leaf")->(∀ l',ql=some l'->H10 l'=none/\H11 l'=some (.lst []))->R [some (.ref t),some (.ref wd),some (.ref l),some (.str z),some (.ref pl),v5,v6,some (.str ab),some rm,some (.str kd),some (lV ql)] H11:=fun ql H11 s11 eq hql=>hR _ _ (by
   clear hR
   walk_at "rd"
   intro q5 g5
   have s5:=s11.trans (zai (o:=.tup [.str ab,lV ql,rm]) g5)
   have G5:=G10.same s5
   have O5:=h12.same s5
   have ht5:upd H11 q5 (.tup [.str ab,lV ql,rm]) q5=some (.tup [.str ab,lV ql,rm]):=zab
   have hq5:∀ l',ql=some l'->upd H11 q5 (.tup [.str ab,lV ql,rm]) l'=some (.lst []):=fun l' e=>zai g5 _ _ (hql l' e).2
   refine (show ∃ x_1,DPut (upd H11 q5 (.tup [.str ab,lV ql,rm])) wd (V.str z) (V.ref q5) x_1/\Q .non x_1 from ?_)
   generalize upd H11 q5 (.tup [.str ab,lV ql,rm])=H5 at s5 G5 O5 ht5 hq5 ⊢
   refine ⟨_,DPut.k (k:=Sum.inr z) G5.hd (line_lt (by rw [show (weK ws).length=ws.length from List.length_map _]; omega)),?_⟩
   have ek:=zwv (w:=⟨z,q5,ab,ql,rm,[],[]⟩) wz
   rw [ek]
   have kp:∀ b o,b≠wd->H5 b=some o->upd H5 wd (.dK (weK (ws++[⟨z,q5,ab,ql,rm,[],[]⟩]))) b=some o:=fun b o n e=>by rw [zah n]; exact e
   have tw:∀ {b xs},H5 b=some (.tup xs)->b≠wd:=fun {b xs} e y=>by rw [y,G5.hd] at e; cases e
   have lw:∀ {b xs},H5 b=some (.lst xs)->b≠wd:=fun {b xs} e y=>by rw [y,G5.hd] at e; cases e
   have nwd:wd ∉ D'.foot:=nof J9.nw J9.G.hd
   have mem:∀ w,w∈ws++[⟨z,q5,ab,ql,rm,[],[]⟩]->w∈ws\/w = ⟨z,q5,ab,ql,rm,[],[]⟩:=fun w hw=>(List.mem_append.mp hw).imp id List.mem_singleton.mp
   refine k D' (ws++[⟨z,q5,ab,ql,rm,[],[]⟩]) _ ⟨O5.other nwd G5.hd (by intro _ y; cases y),W',F',⟨zab,fun w hw=>?_,fun w hw l' e=>?_⟩,PO.mt okd J9.M J9.W q5 ql eq,nwd,fun l' hl'=>?_,?_,hpp,?_,?_,hqn,fun w hw=>?_,htm,hgs,fun w hw na=>?_⟩ hct ⟨fun b o n1 n2 _ e=>kp b o n2 (s5 _ _ (h13 _ _ n1 e)),fun b hb=>?_⟩
   ·rcases mem w hw with q | q
    ·exact kp _ _ (tw (G5.ht w q)) (G5.ht w q)
    ·rw [q]; exact kp _ _ (tw ht5) ht5
   ·rcases mem w hw with q | q
    ·have R0:=G5.hg w q l' e
     exact ⟨kp _ _ (lw R0.hl) R0.hl,R0.r.keep fun p y hp=>kp _ _ (tw hp) hp⟩
    ·rw [q] at e ⊢
     exact ⟨kp _ _ (lw (hq5 l' e)) (hq5 l' e),.nil⟩
   ·obtain ⟨w,hw,e⟩:=mem_lists.mp hl'
    rcases mem w hw with q | q
    ·exact hl10 l' (mem_lists.mpr ⟨w,q,e⟩)
    ·rw [q] at e
     exact h12.free (hql l' e).1
   ·show (lists (ws++[⟨z,q5,ab,ql,rm,[],[]⟩])).Nodup
    unfold lists
    rw [List.filterMap_append]
    cases ql with
    | none =>
     show (ws.filterMap (fun w:WE=>w.ql)++[]).Nodup
     rw [List.append_nil]; exact J9.ld
    | some l' =>
     show (ws.filterMap (·.ql)++[l']).Nodup
     rw [List.nodup_append]
     refine ⟨J9.ld,by simp,fun a ha b hb e=>?_⟩
     rw [List.mem_singleton.mp hb] at e
     subst e
     obtain ⟨w,hw,e⟩:=mem_lists.mp ha
     have:=(G10.hg w hw a e).hl
     rw [(hql a rfl).1] at this; cases this
   ·rw [List.length_append]; show ws.length+1<=12; omega
   ·rw [ln',J9.ln,List.length_append]; rfl
   ·rcases mem w hw with q | q
    ·exact Nat.le_succ_of_le (J9.qw w q)
    ·rw [q]; exact Nat.zero_le _
   ·have zn:∀ {y w'},wfn ws y=some w'->wfn (ws++[⟨z,q5,ab,ql,rm,[],[]⟩]) y=some w':=fun {y w'} e=>by
     rw [zwu wz,if_neg (fun q=>by rw [q] at e; rw [show wfn ws z=none from wz] at e; cases e)]
     exact e
    rcases mem w hw with q | q
    ·obtain ⟨w',e1,e2⟩:=J9.dp w q na
     exact ⟨w',zn e1,e2⟩
    ·rw [q] at na ⊢
     rcases hab with h | ⟨w',e1,e2,_⟩
     ·exact absurd h na
     ·exact ⟨w',zn e1,e2⟩
   ·by_cases y:b∈D.foot
    ·exact .inl y
    ·refine .inr ?_
     rcases hb with q | q
     ·exact (ft' b q).elim (fun q=>absurd q y) .inr
     ·obtain ⟨w,hw,e⟩:=mem_lists.mp q
      rcases mem w hw with q | q
      ·exact .inl (mem_lists.mpr ⟨w,q,e⟩)
      ·rw [q] at e
       right
       cases x:H9 b with
       | none=>rfl
       | some o=>have z1:=(hql b e).1; rw [h13 _ _ y x] at z1; cases z1)
  clear hR
  walk_at "rd"
  refine ite2 (fun c1=>?_) fun c1=>fin none H10 (Same.refl _) ⟨fun h=>absurd rfl h,fun h=>absurd h c1⟩ fun l' e=>by cases e
  intro l5 f5
  exact fin (some l5) _ (zai f5) ⟨fun _=>c1,fun _=>by simp⟩ fun l' e=>by cases e; exact ⟨f5,zab⟩
theorem zsx (ns:List Str) (lo hi:Option Int):∃ ms:List Str,cutV (ns.map V.str) lo hi=ms.map V.str/\ms.length<=ns.length/\∀ x∈ms,x∈ns:=by
 refine ⟨(ns.drop (HT.sIx (ns.map V.str).length 0 lo)).take (HT.sIx (ns.map V.str).length (ns.map V.str).length hi-HT.sIx (ns.map V.str).length 0 lo),?_,?_,fun x h=>List.mem_of_mem_drop (List.mem_of_mem_take h)⟩
 ·unfold cutV
  rw [List.map_take,List.map_drop]
 ·rw [List.length_take,List.length_drop]
  omega
def dropW (ws:List WE) (x:Str):List WE:=ws.filter fun w=>decide (w.nm≠x)
theorem mem_dropW {ws:List WE} {x:Str} {w:WE}:w∈dropW ws x↔w∈ws/\w.nm≠x:=by
 unfold dropW
 rw [List.mem_filter,decide_eq_true_iff]
theorem zuh (ws:List WE) (x:Str):dropK (weK ws) (Sum.inr x:Key)=weK (dropW ws x):=by
 unfold dropK weK dropW
 rw [List.filter_map]
 congr 1
 refine List.filter_congr fun p _=>?_
 simp [Function.comp_def]
theorem zui (ws:List WE) (x y:Str):wfn (dropW ws x) y=if y=x then none else wfn ws y:=by
 induction ws with
 | nil=>unfold wfn dropW; simp
 | cons p r ih =>
  unfold wfn dropW at ih ⊢
  rw [List.filter_cons]
  by_cases hp:p.nm=x
  ·rw [if_neg (by simp [hp]),ih,List.find?_cons]
   by_cases hy:y=x
   ·rw [if_pos hy,if_pos hy]
   ·rw [if_neg hy,if_neg hy,decide_eq_false (fun z=>hy (z.symm.trans hp))]
  ·rw [if_pos (by simp [hp]),List.find?_cons,List.find?_cons]
   by_cases hy:p.nm=y
   ·have:¬ y=x:=fun z=>hp (hy.trans z)
    simp [hy,this]
   ·simp only [decide_eq_false hy]
    exact ih
theorem zoo {x:Str} {l:List ND} {ws:List WE} (p:Paired NW l ws):Paired NW (zbx l x) (dropW ws x):=by
 induction p with
 | nil=>exact .nil
 | @cons n w l ws a b ih =>
  unfold zbx dropW at ih ⊢
  rw [List.filter_cons,List.filter_cons]
  by_cases c:n.nm=x
  ·rw [if_neg (by simp [c]),if_neg (by rw [<- a.nm]; simp [c])]
   exact ih
  ·rw [if_pos (by simp [c]),if_pos (by rw [<- a.nm]; simp [c])]
   exact .cons a ih
theorem zks {ws:List WE} {x:Str} {l:Addr} (h:l∈lists (dropW ws x)):l∈lists ws:=by
 obtain ⟨w,hw,e⟩:=mem_lists.mp h
 exact mem_lists.mpr ⟨w,(mem_dropW.mp hw).1,e⟩
theorem LJ.take {C:Cl} {wd t:Addr} {i:Nat} {H H1:Hp} {D:TD} {ws:List WE} (J:LJ C wd t i H D ws) {x:Str} {n un:ND} {c:At5×CSt} (nr:x≠road) (nk:kids D.ns x = []) (hx:fndN D.ns x=some n) (ea:n.ab=some un.nm) (hu:un∈D.ns) (hc:un.ch=some c) (O1:TrOk C H1 (D.take un c x)) (dd:Deed D.foot H H1):LJ C wd t i (upd H1 wd (.dK (weK (dropW ws x)))) (D.take un c x) (dropW ws x)/\Stp D ws wd H (upd H1 wd (.dK (weK (dropW ws x)))) (D.take un c x) (dropW ws x):=by
 obtain ⟨nin,ne⟩:=zbm hx
 subst ne
 have W':=J.W.take nin nr nk hu ea hc
 have nu:un.nm≠n.nm:=fun z=>by
  have w:n.nm∈kids D.ns un.nm:=List.mem_map.mpr ⟨n,List.mem_filter.mpr ⟨nin,decide_eq_true ea⟩,rfl⟩
  rw [z,nk] at w; cases w
 have fsub:∀ b,b∈(D.take un c n.nm).foot->b∈D.foot:=fun b hb=>by
  unfold TD.foot at hb
  rcases List.mem_cons.mp hb with z | hb
  ·exact z ▸ List.mem_cons_self ..
  rcases List.mem_cons.mp hb with z | hb
  ·exact z ▸ List.mem_cons_of_mem _ (List.mem_cons_self ..)
  rcases List.mem_cons.mp hb with z | hb
  ·exact z ▸ List.mem_cons_of_mem _ (List.mem_cons_of_mem _ (List.mem_cons_self ..))
  obtain ⟨y,hy,z⟩:=List.mem_flatMap.mp hb
  have hy:=(mem_dropNd.mp hy).1
  rcases zfc hy with q | q
  ·refine TD.mem_node hu ?_
   rw [q] at z
   unfold ND.foot at z ⊢
   rw [hc]; exact z
  ·exact TD.mem_node q.1 z
 have tup:∀ {b xs},H b=some (.tup xs)->b ∉ D.foot:=fun {b xs} e=>J.O.notup e
 have hd1:=dd _ _ J.nw J.G.hd
 have kp:∀ b o,b≠wd->H1 b=some o->upd H1 wd (.dK (weK (dropW ws n.nm))) b=some o:=fun b o q e=>by rw [zah q]; exact e
 have tw:∀ {b xs},H1 b=some (.tup xs)->b≠wd:=fun {b xs} e y=>by rw [y,hd1] at e; cases e
 have lw:∀ {b xs},H1 b=some (.lst xs)->b≠wd:=fun {b xs} e y=>by rw [y,hd1] at e; cases e
 have nwd:wd ∉ (D.take un c n.nm).foot:=fun z=>J.nw (fsub _ z)
 have mem:∀ y∈(D.take un c n.nm).ns,∃ y'∈D.ns,y.ps=y'.ps/\y.rm=y'.rm/\(y.ch=y'.ch\/(y'=un/\y.ch=some (c.1,c.2.take n.nm))):=fun y hy=>by
  have hy:=(mem_dropNd.mp hy).1
  rcases zfc hy with q | q
  ·exact ⟨un,hu,by rw [q],by rw [q],.inr ⟨rfl,by rw [q]⟩⟩
  ·exact ⟨y,q.1,rfl,rfl,.inl rfl⟩
 obtain ⟨r,rest,e,p⟩:=J.M
 obtain ⟨r',rest',e',r1,r2,_⟩:=J.W.rd
 have er:r=r':=by rw [e] at e'; cases e'; rfl
 subst er
 have M':Mt (D.take un c n.nm) (dropW ws n.nm):=by
  refine ⟨if r.nm=un.nm then { un with ch:=some (c.1,c.2.take n.nm) } else r,zbx (setN rest { un with ch:=some (c.1,c.2.take n.nm) }) n.nm,?_,zoo (zkr (un':={ un with ch:=some (c.1,c.2.take n.nm) }) J.W.nn hu rfl (fun w a=>?_) (fun y hy=>by rw [e]; exact List.mem_cons_of_mem _ hy) p)⟩
  ·show zbx (setN D.ns _) n.nm = _
   rw [e]
   unfold setN zbx
   rw [List.map_cons,List.filter_cons,if_pos]
   refine decide_eq_true ?_
   split
   ·exact nu
   ·rw [r1]; exact nr.symm
  ·have lf:¬ w.ql≠none:=fun z=>by
    have:=a.lf.mpr z
    rw [hc] at this; cases this
   exact ⟨a.nm,a.ab,⟨fun z=>(by cases z),fun z=>absurd z lf⟩,fun z=>absurd z lf,a.rm,a.em⟩
 refine ⟨⟨O1.other nwd hd1 (by intro _ y; cases y),W',fun y hy d hd=>?_,⟨zab,fun w hw=>?_,fun w hw l el=>?_⟩,?_,nwd,fun l hl z=>J.nl l (zks hl) (fsub _ z),?_,J.p,?_,?_,fun y hy=>?_,fun w hw=>J.qw w (mem_dropW.mp hw).1,J.tm,J.gs,fun w hw na=>?_⟩,⟨fun b o n1 n2 n3 eb=>kp b o n2 (dd _ _ n1 eb),fun b hb=>hb.elim (fun q=>.inl (fsub b q)) fun q=>.inr (.inl (zks q))⟩⟩
 ·rcases mem y hy with ⟨y',hy',_,_,q⟩
  rcases q with q | ⟨q1,q2⟩
  ·exact J.F y' hy' d (q ▸ hd)
  ·rw [q2] at hd
   cases hd
   have:=J.F un hu c hc
   have:(c.2.take n.nm).sz<=c.2.sz:=by
    obtain ⟨a,cs⟩:=c
    cases cs with
    | st=>exact Nat.le_refl _
    | rd nm q rs tu ch=>exact List.length_filter_le _ _
   show (c.2.take n.nm).sz<=_
   omega
 ·have hw:=(mem_dropW.mp hw).1
  have h1:=dd _ _ (tup (J.G.ht w hw)) (J.G.ht w hw)
  exact kp _ _ (tw h1) h1
 ·have hw:=(mem_dropW.mp hw).1
  have R0:=J.G.hg w hw l el
  have h1:=dd _ _ (J.nl l (mem_lists.mpr ⟨w,hw,el⟩)) R0.hl
  exact ⟨kp _ _ (lw h1) h1,R0.r.keep fun p y hp=>by
   have h2:=dd _ _ (tup hp) hp
   exact kp _ _ (tw h2) h2⟩
 ·exact M'
 ·exact J.ld.sublist (List.Sublist.filterMap _ List.filter_sublist)
 ·exact Nat.le_trans (List.length_filter_le _ _) J.wl
 ·obtain ⟨_,_,e3,p3⟩:=M'
  rw [e3,List.length_cons,p3.length]
 ·rcases mem y hy with ⟨y',hy',q1,q2,_⟩
  rw [q1,q2]; exact J.ql y' hy'
 ·obtain ⟨hw1,hw2⟩:=mem_dropW.mp hw
  obtain ⟨w',e1,e2⟩:=J.dp w hw1 na
  refine ⟨w',?_,e2⟩
  rw [zui,if_neg (fun z=>?_)]
  ·exact e1
  ·have:w.nm∈kids D.ns n.nm:=by
    rw [J.M.kids J.W]
    exact List.mem_map.mpr ⟨w,List.mem_filter.mpr ⟨hw1,decide_eq_true z⟩,rfl⟩
   rw [nk] at this; cases this
def addW (ws:List WE) (x:Str) (q:Addr) (g:D2):List WE:=ws.map fun w=>if w.nm=x then { w with ps:=w.ps++[q],qu:=w.qu++[g] } else w
theorem zwx (ws:List WE) (x:Str) (q:Addr) (g:D2):weK (addW ws x q g)=weK ws:=by
 unfold weK addW
 rw [List.map_map]
 refine List.map_congr_left fun w _=>?_
 show ((Sum.inr (if w.nm=x then _ else w).nm:Key),V.ref (if w.nm=x then _ else w).q) = _
 split <;> rfl
theorem zig {ws:List WE} {x:Str} {q:Addr} {g:D2} {w:WE} (h:w∈addW ws x q g):∃ w0∈ws,w.nm=w0.nm/\w.q=w0.q/\w.ab=w0.ab/\w.ql=w0.ql/\w.rm=w0.rm/\((w0.nm=x/\w.ps=w0.ps++[q]/\w.qu=w0.qu++[g])\/(w0.nm≠x/\w=w0)):=by
 unfold addW at h
 obtain ⟨w0,h0,e⟩:=List.mem_map.mp h
 by_cases c:w0.nm=x
 ·rw [if_pos c] at e
  subst e
  exact ⟨w0,h0,rfl,rfl,rfl,rfl,rfl,.inl ⟨c,rfl,rfl⟩⟩
 ·rw [if_neg c] at e
  subst e
  exact ⟨w0,h0,rfl,rfl,rfl,rfl,rfl,.inr ⟨c,rfl⟩⟩
theorem zjt (ws:List WE) (x:Str) (q:Addr) (g:D2):lists (addW ws x q g)=lists ws:=by
 unfold lists addW
 rw [List.filterMap_map]
 congr 1
 funext w
 show (if w.nm=x then _ else w).ql=w.ql
 split <;> rfl
theorem zwy (ws:List WE) (x y:Str) (q:Addr) (g:D2) {w:WE} (h:wfn ws y=some w):∃ w',wfn (addW ws x q g) y=some w'/\w'.ab=w.ab:=by
 induction ws with
 | nil=>cases h
 | cons v r ih =>
  unfold wfn at h
  unfold wfn addW at ih ⊢
  rw [List.find?_cons] at h
  rw [List.map_cons,List.find?_cons]
  have en:(if v.nm=x then { v with ps:=v.ps++[q],qu:=v.qu++[g] } else v).nm=v.nm:=by split <;> rfl
  rw [en]
  by_cases c:v.nm=y
  ·rw [decide_eq_true c] at h ⊢
   cases h
   refine ⟨_,rfl,?_⟩
   split <;> rfl
  ·rw [decide_eq_false c] at h ⊢
   exact ih h
theorem znl:∀ {ws:List WE},(lists ws).Nodup->∀ {v w:WE} {l:Addr},v∈ws->w∈ws->v.ql=some l->w.ql=some l->v=w
 | [],_,_,_,_,h0,_,_,_=>by cases h0
 | a :: r,nd,v,w,l,h0,win,el,hl=>by
  have sub:∀ {u:WE},u∈r->u.ql=some l->l∈lists r:=fun {u} hu e=>mem_lists.mpr ⟨u,hu,e⟩
  have nd':(lists r).Nodup/\∀ b,a.ql=some b->b ∉ lists r:=by
   unfold lists at nd ⊢
   rw [List.filterMap_cons] at nd
   cases e:a.ql with
   | none=>rw [e] at nd; exact ⟨nd,fun b z=>by cases z⟩
   | some b=>rw [e] at nd; exact ⟨(List.nodup_cons.mp nd).2,fun b' z=>by cases z; exact (List.nodup_cons.mp nd).1⟩
  rcases List.mem_cons.mp h0 with p1 | p1 <;> rcases List.mem_cons.mp win with p2 | p2
  ·rw [p1,p2]
  ·subst p1
   exact absurd (sub p2 hl) (nd'.2 l el)
  ·subst p2
   exact absurd (sub p1 el) (nd'.2 l hl)
  ·exact znl nd'.1 p1 p2 el hl
theorem LJ.come {C:Cl} {wd t:Addr} {i:Nat} {H H1:Hp} {D:TD} {ws:List WE} (J:LJ C wd t i H D ws) {x:Str} {n:ND} {w:WE} {l q q2:Addr} {len:Int} (hx:fndN D.ns x=some n) (nr:x≠road) (hw:wfn ws x=some w) (hl:w.ql=some l) (O1:TrOk C H1 (TD.come D n q len)) (hq:H q=none) (dd:Deed D.foot H H1) (h2:H1 q2=none):LJ C wd t (i+1) (upd (upd H1 q2 (.tup [.int D.ct,.int len])) l (.lst ((w.ps++[q2]).map V.ref))) (TD.come D n q len) (addW ws x q2 (D.ct,len))/\Stp D ws wd H (upd (upd H1 q2 (.tup [.int D.ct,.int len])) l (.lst ((w.ps++[q2]).map V.ref))) (TD.come D n q len) (addW ws x q2 (D.ct,len)):=by
 obtain ⟨nin,ne⟩:=zbm hx
 obtain ⟨win,wne⟩:=zfv hw
 obtain ⟨_,n',hn',nw⟩:=J.M.inn J.W hw
 rw [hx] at hn'; cases hn'
 have lin:l∈lists ws:=mem_lists.mpr ⟨w,win,hl⟩
 have R0:=J.G.hg w win l hl
 have feq:(TD.come D n q len).foot=D.foot:=by
  unfold TD.foot TD.come
  show D.p :: D.pn :: D.pg :: (setN D.ns _).flatMap ND.foot = _
  congr 3
  unfold setN
  rw [List.flatMap_map]
  have:∀ {k:List ND},(∀ y∈k,y∈D.ns)->(k.flatMap fun y=>ND.foot (if y.nm=n.nm then { n with ps:=n.ps++[q],qu:=n.qu++[(D.ct,len)] } else y))=k.flatMap ND.foot:=fun {k} hk=>by
   induction k with
   | nil=>rfl
   | cons y r ih =>
    rw [List.flatMap_cons,List.flatMap_cons,ih fun z hz=>hk z (List.mem_cons_of_mem _ hz)]
    congr 1
    by_cases c:y.nm=n.nm
    ·have:y=n:=by
      have h1:=zee J.W.nn (hk y (List.mem_cons_self ..))
      rw [c,zee J.W.nn nin] at h1
      exact (Option.some.inj h1).symm
     rw [if_pos c,this]; rfl
    ·rw [if_neg c]
  exact this fun y hy=>hy
 have tup:∀ {b xs},H b=some (.tup xs)->b ∉ D.foot:=fun {b xs} e=>J.O.notup e
 have hd1:=dd _ _ J.nw J.G.hd
 have l1:=dd _ _ (J.nl l lin) R0.hl
 have sn:=zai (o:=.tup [.int D.ct,.int len]) h2
 have kp:∀ b o,b≠l->H1 b=some o->upd (upd H1 q2 (.tup [.int D.ct,.int len])) l (.lst ((w.ps++[q2]).map V.ref)) b=some o:=fun b o c e=>by rw [zah c]; exact sn _ _ e
 have nql:q2≠l:=fun z=>by rw [z,l1] at h2; cases h2
 have tl:∀ {b xs},H1 b=some (.tup xs)->b≠l:=fun {b xs} e y=>by rw [y,l1] at e; cases e
 have wdl:wd≠l:=fun z=>by rw [z,l1] at hd1; cases hd1
 have nlf:l ∉ (TD.come D n q len).foot:=by rw [feq]; exact J.nl l lin
 have O2:=(O1.same sn).other (o':=.lst ((w.ps++[q2]).map V.ref)) nlf (sn _ _ l1) (by intro _ z; cases z)
 have q2h:upd (upd H1 q2 (.tup [.int D.ct,.int len])) l (.lst ((w.ps++[q2]).map V.ref)) q2=some (.tup [.int D.ct,.int len]):=by rw [zah nql]; exact zab
 have W':(TD.come D n q len).Wf:=by
  have h0:=J.W.set nin (n':={ n with ps:=n.ps++[q],qu:=n.qu++[(D.ct,len)] }) rfl rfl Iff.rfl (fun c c' e1 e2=>by rw [show n.ch=some c' from e2] at e1; cases e1; rfl) (fun c e=>J.W.cok n nin c e)
  exact ⟨h0.nn,h0.rd,h0.ra,h0.up,h0.kid,h0.lf,h0.cok,h0.m1,h0.sok⟩
 have only:∀ w0∈ws,w0.nm=x->w0=w:=fun w0 h0 e=>by
  have:=zpw (J.M.nd J.W) h0
  rw [e,hw] at this
  exact (Option.some.inj this).symm
 refine ⟨⟨O2,W',fun y hy d hd=>?_,⟨?_,fun v hv=>?_,fun v hv l' el=>?_⟩,?_,?_,?_,?_,J.p,?_,?_,fun y hy=>?_,fun v hv=>?_,J.tm,J.gs,fun v hv na=>?_⟩,⟨fun b o n1 n2 n3 e=>kp b o (fun z=>n3 (z ▸ lin)) (dd _ _ n1 e),fun b hb=>?_⟩⟩
 ·rcases zfc hy with z | z
  ·rw [z] at hd; exact Nat.le_trans (J.F n nin d hd) (by omega)
  ·exact Nat.le_trans (J.F y z.1 d hd) (by omega)
 ·rw [zwx]; exact kp _ _ wdl hd1
 ·obtain ⟨w0,h0,e1,e2,e3,e4,e5,_⟩:=zig hv
  rw [e2,e3,e4,e5]
  have h3:=dd _ _ (tup (J.G.ht w0 h0)) (J.G.ht w0 h0)
  exact kp _ _ (tl h3) h3
 ·obtain ⟨w0,h0,e1,e2,e3,e4,e5,e6⟩:=zig hv
  have keep:∀ {p xs},H p=some (.tup xs)->upd (upd H1 q2 (.tup [.int D.ct,.int len])) l (.lst ((w.ps++[q2]).map V.ref)) p=some (.tup xs):=fun {p xs} hp=>by
   have h3:=dd _ _ (tup hp) hp
   exact kp _ _ (tl h3) h3
  rcases e6 with ⟨z,e7,e8⟩ | ⟨z,e7⟩
  ·have:=only w0 h0 z
   subst this
   rw [e4,hl] at el
   cases el
   rw [e7,e8]
   exact ⟨zab,zez (F:=fun p (g:D2)=>upd (upd H1 q2 (.tup [.int D.ct,.int len])) l (.lst ((w0.ps++[q2]).map V.ref)) p=some (.tup (d2 g))) q2h (R0.r.keep fun p y hp=>keep hp)⟩
  ·subst e7
   have R1:=J.G.hg v h0 l' el
   have nl':l'≠l:=fun y=>by
    subst y
    have:v=w:=znl J.ld h0 win el hl
    exact z (this ▸ wne)
   have h3:=dd _ _ (J.nl l' (mem_lists.mpr ⟨v,h0,el⟩)) R1.hl
   exact ⟨kp _ _ nl' h3,R1.r.keep fun p y hp=>keep hp⟩
 ·obtain ⟨r,rest,e,p⟩:=J.M
  obtain ⟨r',rest',e',r1,_⟩:=J.W.rd
  have er:r=r':=by rw [e] at e'; cases e'; rfl
  subst er
  refine ⟨r,setN rest { n with ps:=n.ps++[q],qu:=n.qu++[(D.ct,len)] },?_,?_⟩
  ·show setN D.ns _ = _
   rw [e]
   unfold setN
   rw [List.map_cons,if_neg (fun z=>nr (by rw [<- ne]; exact z.symm.trans r1))]
  ·have nn:=J.W.nn
   have lf0:n.ch=none:=nw.lf.mpr (by rw [hl]; simp)
   have key:∀ {l:List ND} {ws:List WE},(∀ y∈l,y.nm=n.nm->y=n)->Paired NW l ws->Paired NW (setN l { n with ps:=n.ps++[q],qu:=n.qu++[(D.ct,len)] }) (addW ws x q2 (D.ct,len)):=fun {l ws} hl p=>by
    induction p with
    | nil=>exact .nil
    | @cons y v l ws a b ih =>
     refine .cons ?_ (ih fun z hz=>hl z (List.mem_cons_of_mem _ hz))
     show NW (if y.nm=n.nm then { n with ps:=n.ps++[q],qu:=n.qu++[(D.ct,len)] } else y) (if v.nm=x then { v with ps:=v.ps++[q2],qu:=v.qu++[(D.ct,len)] } else v)
     by_cases c:y.nm=n.nm
     ·have:=hl y (List.mem_cons_self ..) c
      subst this
      rw [if_pos rfl,if_pos (a.nm.symm.trans ne)]
      have ql:v.ql≠none:=a.lf.mp lf0
      exact ⟨a.nm,a.ab,a.lf,fun _=>by show y.qu++_=v.qu++_; rw [a.qu ql],a.rm,fun z=>absurd z ql⟩
     ·rw [if_neg c,if_neg (fun z=>c (by rw [a.nm,z,ne]))]; exact a
   exact key (fun y hy z=>by
    have h1:=zee nn (n:=y) (by rw [e]; exact List.mem_cons_of_mem _ hy)
    rw [z,zee nn nin] at h1
    exact (Option.some.inj h1).symm) p
 ·rw [feq]; exact J.nw
 ·rw [zjt,feq]; exact J.nl
 ·rw [zjt]; exact J.ld
 ·unfold addW; rw [List.length_map]; exact J.wl
 ·show (setN D.ns _).length = _
  unfold setN addW
  rw [List.length_map,List.length_map]; exact J.ln
 ·rcases zfc hy with z | z
  ·rw [z]
   refine ⟨?_,(J.ql n nin).2⟩
   show (n.ps++[q]).length<=i+1
   rw [List.length_append]
   have:=(J.ql n nin).1
   show n.ps.length+1<=i+1
   omega
  ·exact ⟨Nat.le_succ_of_le (J.ql y z.1).1,(J.ql y z.1).2⟩
 ·obtain ⟨w0,h0,_,_,_,_,_,e6⟩:=zig hv
  rcases e6 with ⟨_,e7,_⟩ | ⟨_,e7⟩
  ·rw [e7,List.length_append]
   have:=J.qw w0 h0
   show w0.ps.length+1<=i+1
   omega
  ·rw [e7]; exact Nat.le_succ_of_le (J.qw w0 h0)
 ·obtain ⟨w0,h0,_,_,e3,_⟩:=zig hv
  rw [e3] at na ⊢
  obtain ⟨w',q1,q3⟩:=J.dp w0 h0 na
  obtain ⟨w'',q4,q5⟩:=zwy ws x w0.ab q2 (D.ct,len) q1
  exact ⟨w'',q4,q5.trans q3⟩
 ·rw [zjt,feq] at hb
  exact hb.imp id .inl
theorem AnsV.deed {C:Cl} {D:TD} {H H1:Hp} (O:TrOk C H D) (dd:Deed D.foot H H1) {v:V} (fr:∀ l,v = .ref l->l ∉ D.foot):∀ {a:Ans},AnsV H v a->AnsV H1 v a
 | .cls,⟨p,e,h⟩=>⟨p,e,dd _ _ (fr p e) h⟩
 | .plc,⟨p,e,h⟩=>⟨p,e,dd _ _ (fr p e) h⟩
 | .len,⟨p,e,h⟩=>⟨p,e,dd _ _ (fr p e) h⟩
 | .non,h=>h
 | .num _,h=>h
 | .lst _,⟨p,e,h⟩=>⟨p,e,dd _ _ (fr p e) h⟩
theorem AnsV.upd {H:Hp} {v:V} {b:Addr} {o:HO} (nb:v≠.ref b):∀ {a:Ans},AnsV H v a->AnsV (L2.upd H b o) v a
 | .cls,⟨p,e,h⟩=>⟨p,e,by rw [zah (fun z=>nb (by rw [e,z]))]; exact h⟩
 | .plc,⟨p,e,h⟩=>⟨p,e,by rw [zah (fun z=>nb (by rw [e,z]))]; exact h⟩
 | .len,⟨p,e,h⟩=>⟨p,e,by rw [zah (fun z=>nb (by rw [e,z]))]; exact h⟩
 | .non,h=>h
 | .num _,h=>h
 | .lst _,⟨p,e,h⟩=>⟨p,e,by rw [zah (fun z=>nb (by rw [e,z]))]; exact h⟩
def zyk (C:Cl):Sp:=fun vs H Q _=>∃ (wd t l:Addr) (i:Nat) (D:TD) (ws:List WE) (xs:List Int),vs = [.ref t,.ref wd,.ref l,.int D.ct]/\LJ C wd t i H D ws/\i<=55/\H l=some (.lst (xs.map V.int))/\8<=xs.length/\(∀ x∈xs,0<=x)/\∀ D' ws' p H',LJ C wd t (i+1) H' D' ws'->H' p=some (.tup [.bl true,.int D'.ct])->Stp D ws wd H H' D' ws'->Q (.ref p) H'
theorem zop (T:Txt K mg c_NoName c_Taken c_NoClass c_NoPlace c_NoShare c_NoLength c_Members c_Chooser c_Starts c_Rounds c_Node c_Tree):Def P w K mg base (CXX P w) 9 "_law_deed" ["_law_tree", "_law_world", "_law_xs", "_law_counted"] (zyk (⟨c_Node,c_Starts,c_Rounds,c_Members,c_Node,c_Tree⟩:Cl)):=by
 have D__law_put:=zqm (P:=P) (w:=w) (base:=base) T
 have D__law_due_take:=zjs (P:=P) (w:=w) (base:=base) T
 have D__law_take:=zom (P:=P) (w:=w) (base:=base) T
 have D__law_length:=zls (P:=P) (w:=w) (base:=base) T
 have D__law_due_come:=zjr (P:=P) (w:=w) (base:=base) T
 have D__law_come:=zol (P:=P) (w:=w) (base:=base) T
 have D__law_whole:=znk (P:=P) (w:=w) (base:=base) T
 refine T.src__law_deed.okN (k:=8) sc__law_deed (fun vs H Q E h=>?_) (fun f cdv A outer s H vs Q E hr h=>?_)
 ·obtain ⟨wd,t,l,i,D,ws,xs,rfl,_⟩:=h
  rfl
 ·obtain ⟨wd,t,l,i,D,ws,xs,rfl,J,i55,hl,lx,px,k⟩:=h
  refine ⟨_,(zad (zbg (i:=4) sc__law_deed.nd rfl (by first|left;rfl|right;rfl) (pe_op zrj (zea (zaa zbd (zaa zbd zag))) (pe_op zxl (zhh (zgc rfl) rfl T.no_list boot_list (zaa (pv 1) zag)) zak))) (zad (zbg (i:=5) sc__law_deed.nd rfl (by first|left;rfl|right;rfl) (pe_ix (zbe K rfl) (pv 4) (pe_op zde (pe_ix (zbe K rfl) (pv 2) zak (fun _ _=>rfl)) (zbq (zfe K rfl) rfl T.no_len boot_len (zaa (pv 4) zag))) (fun _ _=>rfl))) (zad (ps_if (PW.pt (pw_or (zau op_lt (pe_op zde (pe_ix (zbe K rfl) (pv 2) zak (fun _ _=>rfl)) zak) zak (zba _)) (zqr (zau (zya hr.units66) (pv 1) zfz (zba _))))) (zad (ps_if (zau op_lt (zbq zsf rfl T.no_len boot_len (zaa (pv 1) zag)) zak (zba _)) (zaf (zav (zbb D__law_put (hr.mono (by decide)) rfl passN (zaa (pv 0) (zaa (pv 1) (zaa (pv 2) zag)))))) zaq) (zaf (zar (zdh (zaa pe_bl (zaa (pv 3) zag)))))) zaq) (zad (ps_if (PW.pt (zki (zau op_eq (pe_op zde (pe_ix (zbe K rfl) (pv 2) zak (fun _ _=>rfl)) zak) zak (zba _)) (zih (zau op_eq (pe_op zde (pe_ix (zbe K rfl) (pv 2) zak (fun _ _=>rfl)) zak) zak (zba _))))) (zad (zbg (i:=6) sc__law_deed.nd rfl (by first|left;rfl|right;rfl) (zbb D__law_due_take (hr.mono (by decide)) rfl passN (zaa (pv 1) (zaa (pv 5) zag)))) (zad (zbg (i:=7) sc__law_deed.nd rfl (by first|left;rfl|right;rfl) (zbb D__law_take (hr.mono (by decide)) rfl passN (zaa (pv 0) (zaa (pv 5) zag)))) (zad (ps_if (zhz (zbq (zdw K rfl) rfl T.no_isinstance boot_isinstance (zaa (pv 6) (zaa (zhs (v:=.ty "list") rfl T.no_list boot_list rfl) zag)))) (zaf (zav (zga (pv 1) (pv 5) ⟨rfl,rfl,rfl,rfl⟩))) zaq) (zaf (zar (zdh (zaa (zij (zep (ziv K rfl hr.units) (pv 7) (pv 6) (zba _)) (zia (zep op_eq (zbq (zdw K rfl) rfl T.no_isinstance boot_isinstance (zaa (pv 7) (zaa (zhs (v:=.ty "list") rfl T.no_list boot_list rfl) zag))) (zbq (zdw K rfl) rfl T.no_isinstance boot_isinstance (zaa (pv 6) (zaa (zhs (v:=.ty "list") rfl T.no_list boot_list rfl) zag))) (zba _)))) (zaa (pv 3) zag)))))))) zaq) (zad (zbg (i:=8) sc__law_deed.nd rfl (by first|left;rfl|right;rfl) (zbb D__law_length (hr.mono (by decide)) rfl passN (zaa (zas (pv 0) rfl) (zaa (pv 2) zag)))) (zad (zbg (i:=6) sc__law_deed.nd rfl (by first|left;rfl|right;rfl) (zbb D__law_due_come (hr.mono (by decide)) rfl passN (zaa (pv 0) (zaa (pv 1) (zaa (pv 5) (zaa (pv 8) (zaa (pv 3) zag))))))) (zad (zbg (i:=7) sc__law_deed.nd rfl (by first|left;rfl|right;rfl) (zbb D__law_come (hr.mono (by decide)) rfl passN (zaa (pv 0) (zaa (pv 5) (zaa (pv 8) zag))))) (zad (ps_if (zhz (zbb D__law_whole (hr.mono (by decide)) rfl passN (zaa (pv 6) zag))) (zad (zav (pe_bm PySem.F.plainAttrs_list PySem.F.slot_list_append PySem.F.type_list_append zen (pe_ix (zdc K rfl) (zca (hu_of hr) (pv 1) (pv 5) (fun _ _=>rfl)) zak (fun _ _=>rfl)) (zaa (zdh (zaa (pv 3) (zaa (pv 8) zag))) zag))) (zaf (zar (zdh (zaa (zij (zbb D__law_whole (hr.mono (by decide)) rfl passN (zaa (pv 7) zag)) (zia (zep (ziv K rfl hr.units) (pv 7) (pv 6) (zba _)))) (zaa (pe_op zew (pv 3) zak) zag)))))) zaq) (zaf (zar (zdh (zaa (zij (zep (ziv K rfl hr.units) (pv 7) (pv 6) (zba _)) (zia (zum (zbb D__law_whole (hr.mono (by decide)) rfl passN (zaa (pv 7) zag))))) (zaa (pv 3) zag))))))))))))),?_⟩
  show tSeq _ _ _ [some (.ref t),some (.ref wd),some (.ref l),some (.int D.ct),none,none,none,none,none] H
  refine zae fun R hR=>?_
  walk_at "rd"
  intro p1 f1
  have s1:=zai (o:=.lst [.str (Str.ofString "road"),.str (Str.ofString "zz")]) f1
  refine ⟨wd,_,rfl,s1 _ _ J.G.hd,fun p2 f2=>?_⟩
  have ek:((weK ws).map fun kv=>kV kv.1)=(ws.map (·.nm)).map V.str:=by
   unfold weK
   rw [List.map_map,List.map_map]; rfl
  rw [ek]
  have s2:=s1.trans (zai (o:=.lst ((ws.map (·.nm)).map V.str)) f2)
  have wlen:(ws.map (·.nm)).length<=12:=by rw [List.length_map]; exact J.wl
  have h1:=zai (o:=.lst ((ws.map (·.nm)).map V.str)) f2 p1 _ zab
  refine ⟨p2,4,_,rfl,rfl,zab,by decide,by decide,zfq (by rw [List.length_map]; show _ * 4<=_; omega),fun p3 f3=>?_⟩
  have e4:(List.replicate (4:Int).toNat ((ws.map (·.nm)).map V.str)).flatten=((List.replicate 4 (ws.map (·.nm))).flatten).map V.str:=by
   rw [List.map_flatten,List.map_replicate]; rfl
  have l4:(List.replicate 4 (ws.map (·.nm))).flatten.length = 4*(ws.map (·.nm)).length:=zrk _ 4
  rw [e4]
  have s3:=s2.trans (zai (o:=.lst ((List.replicate 4 (ws.map (·.nm))).flatten.map V.str)) f3)
  refine ⟨p1,p3,_,_,rfl,rfl,zai f3 _ _ h1,zab,zfq (by rw [List.length_map,l4]; simp only [List.length_cons,List.length_nil]; omega),fun p4 f4=>hR _ _ ?_⟩
  clear hR
  have s4:=s3.trans (zai (o:=.lst ([.str (Str.ofString "road"),.str (Str.ofString "zz")]++(List.replicate 4 (ws.map (·.nm))).flatten.map V.str)) f4)
  have h4:upd (upd (upd (upd H p1 (.lst [.str (Str.ofString "road"),.str (Str.ofString "zz")])) p2 (.lst ((ws.map (·.nm)).map V.str))) p3 (.lst ((List.replicate 4 (ws.map (·.nm))).flatten.map V.str))) p4 (.lst ([.str (Str.ofString "road"),.str (Str.ofString "zz")]++(List.replicate 4 (ws.map (·.nm))).flatten.map V.str)) p4=some (.lst (([Str.ofString "road", Str.ofString "zz"]++(List.replicate 4 (ws.map (·.nm))).flatten).map V.str)):=by rw [zab,List.map_append]; rfl
  have ln:([Str.ofString "road", Str.ofString "zz"]++(List.replicate 4 (ws.map (·.nm))).flatten).length≠0:=by simp
  refine (show tSeq _ _ _ [some (.ref t),some (.ref wd),some (.ref l),some (.int D.ct),some (.ref p4),none,none,none,none] (upd (upd (upd (upd H p1 (.lst [.str (Str.ofString "road"),.str (Str.ofString "zz")])) p2 (.lst ((ws.map (·.nm)).map V.str))) p3 (.lst ((List.replicate 4 (ws.map (·.nm))).flatten.map V.str))) p4 (.lst ([.str (Str.ofString "road"),.str (Str.ofString "zz")]++(List.replicate 4 (ws.map (·.nm))).flatten.map V.str))) from ?_)
  generalize upd (upd (upd (upd H p1 (.lst [.str (Str.ofString "road"),.str (Str.ofString "zz")])) p2 (.lst ((ws.map (·.nm)).map V.str))) p3 (.lst ((List.replicate 4 (ws.map (·.nm))).flatten.map V.str))) p4 (.lst ([.str (Str.ofString "road"),.str (Str.ofString "zz")]++(List.replicate 4 (ws.map (·.nm))).flatten.map V.str))=H4 at s4 h4 ⊢
  generalize [Str.ofString "road", Str.ofString "zz"]++(List.replicate 4 (ws.map (·.nm))).flatten=nms at h4 ln
  have J:=J.same s4
  have hl:=s4 _ _ hl
  have k:∀ D' ws' p H',LJ (⟨c_Node,c_Starts,c_Rounds,c_Members,c_Node,c_Tree⟩:Cl) wd t (i+1) H' D' ws'->H' p=some (.tup [.bl true,.int D'.ct])->Stp D ws wd H4 H' D' ws'->Q (.ref p) H':=fun D' ws' p H' a b c=>k D' ws' p H' a b (c.pre s4)
  clear s4 s3 s2 s1 f1 f2 f3 f4 h1
  refine zae fun R hR=>?_
  walk_at "rd"
  refine ixNum 1 hl (by omega) fun y1 _=>zmi (.of h4) ⟨_,rfl,?_⟩
  rw [List.length_map]
  refine ⟨_,rfl,by omega,?_⟩
  refine ixW h4 (Int.emod_nonneg _ (by omega)) (Int.emod_lt_of_pos _ (by omega)) fun x _=>hR _ _ ?_
  clear hR h4 ln
  have i60:i<=60:=by omega
  have fit:=J.fit i60
  have ql9:∀ n∈D.ns,n.ps.length<=900:=fun n hn=>Nat.le_trans (J.ql n hn).1 (by omega)
  have qw9:∀ w∈ws,w.ps.length<=900:=fun w hw=>Nat.le_trans (J.qw w hw) (by omega)
  have rms:=J.rms
  refine zae fun R hR=>?_
  refine zlf fun Gp hGp=>?_
  have putc:∀ H5,Same H4 H5->Gp [some (.ref t),some (.ref wd),some (.ref l),some (.int D.ct),some (.ref p4),some (.str x),none,none,none] H5:=fun H5 s5=>hGp _ _ (by
   clear hGp hR
   have J:=J.same s5
   have hl:=s5 _ _ hl
   refine zae fun R hR=>?_
   have fin:∀ D' ws' H',LJ (⟨c_Node,c_Starts,c_Rounds,c_Members,c_Node,c_Tree⟩:Cl) wd t (i+1) H' D' ws'->D'.ct=D.ct->Stp D ws wd H5 H' D' ws'->R [some (.ref t),some (.ref wd),some (.ref l),some (.int D.ct),some (.ref p4),some (.str x),none,none,none] H':=fun D' ws' H' J' ec st=>hR _ _ (by
    walk_at "rd"
    intro p hp
    exact k D' ws' p _ (J'.same (zai hp)) (by rw [zab,ec]) ((st.post (zai hp)).pre s5))
   clear hR
   walk_at "rd"
   refine ⟨_,J.G.hd,?_⟩
   rw [show ((weK ws).length:Int)=(ws.length:Int) from by rw [show (weK ws).length=ws.length from List.length_map _]]
   refine ite2 (fun c1=>?_) fun c1=>fin D ws H5 J.next rfl (Stp.refl (Same.refl _))
   exact ⟨wd,t,l,i,D,ws,xs,rfl,J,i60,by omega,hl,by omega,px,fun D' ws' H' a b c=>fin D' ws' H' a b c⟩)
  clear hGp
  walk_at "rd"
  refine ixNum 0 hl (by omega) fun y0 _=>⟨_,rfl,?_⟩
  refine ite2 (fun _=>putc H4 (Same.refl _)) fun c0 p5 f5=>?_
  have s5:=zai (o:=.dK []) f5
  refine ⟨wd,p5,_,rfl,rfl,.inl (s5 _ _ J.G.hd),.inl zab,_,rfl,ite2 (fun _=>putc _ s5) fun _=>hR _ _ ?_⟩
  clear hR putc
  have J:=J.same s5
  have hl:=s5 _ _ hl
  have k:∀ D' ws' p H',LJ (⟨c_Node,c_Starts,c_Rounds,c_Members,c_Node,c_Tree⟩:Cl) wd t (i+1) H' D' ws'->H' p=some (.tup [.bl true,.int D'.ct])->Stp D ws wd (upd H4 p5 (.dK [])) H' D' ws'->Q (.ref p) H':=fun D' ws' p H' a b c=>k D' ws' p H' a b (c.pre s5)
  refine (show tSeq _ _ _ [some (.ref t),some (.ref wd),some (.ref l),some (.int D.ct),some (.ref p4),some (.str x),none,none,none] (upd H4 p5 (.dK [])) from ?_)
  generalize upd H4 p5 (.dK [])=H5 at J hl k ⊢
  clear s5 f5
  refine zae fun R hR=>?_
  refine zlf fun Gp hGp=>?_
  have takec:Gp [some (.ref t),some (.ref wd),some (.ref l),some (.int D.ct),some (.ref p4),some (.str x),none,none,none] H5:=hGp _ _ (by
   clear hGp hR
   refine zae fun R hR=>?_
   walk_at "rd"
   refine ⟨wd,D,ws,x,rfl,J.G,J.W,J.M,qw9,by have:=J.wl; omega,fun v H6 s6 av fv=>hR _ _ ?_⟩
   clear hR
   have J5:=J
   have J:=J.same s6
   have vf:∀ l',v = .ref l'->l' ∉ D.foot:=fun l' e=>by
    cases a:takeA D x with
    | cls=>rw [a] at av; obtain ⟨p,e',hp⟩:=av; rw [e] at e'; cases e'; exact J.O.notup hp
    | plc=>rw [a] at av; obtain ⟨p,e',hp⟩:=av; rw [e] at e'; cases e'; exact J.O.notup hp
    | len=>rw [a] at av; obtain ⟨p,e',hp⟩:=av; rw [e] at e'; cases e'; exact J.O.notup hp
    | non=>rw [a] at av; have av:v = .non:=av; rw [e] at av; cases av
    | num j=>rw [a] at av; have av:v = .int j:=av; rw [e] at av; cases av
    | lst xs=>exact J5.O.free (fv l' e)
   have k:∀ D' ws' p H',LJ (⟨c_Node,c_Starts,c_Rounds,c_Members,c_Node,c_Tree⟩:Cl) wd t (i+1) H' D' ws'->H' p=some (.tup [.bl true,.int D'.ct])->Stp D ws wd H6 H' D' ws'->Q (.ref p) H':=fun D' ws' p H' a b c=>k D' ws' p H' a b (c.pre s6)
   refine zae fun R hR=>?_
   have post:∀ (u:V) (H7:Hp),((Same H6 H7/\(takeA D x).isLst=false/\AnsV H7 u (takeA D x))\/(∃ n un c l2,x≠road/\kids D.ns x = []/\fndN D.ns x=some n/\n.ab=some un.nm/\un∈D.ns/\un.ch=some c/\TrOk (⟨c_Node,c_Starts,c_Rounds,c_Members,c_Node,c_Tree⟩:Cl) H7 (D.take un c x)/\Deed D.foot H6 H7/\u = .ref l2/\H7 l2=some (.lst (qnumV n))))->R [some (.ref t),some (.ref wd),some (.ref l),some (.int D.ct),some (.ref p4),some (.str x),some v,some u,none] H7:=fun u H7 cd=>hR _ _ (by
    clear hR
    refine zae fun R hR=>?_
    have ret:∀ (a:Ans) (Hz:Hp) (D':TD) (ws':List WE),AnsV Hz v a->AnsV Hz u a->LJ (⟨c_Node,c_Starts,c_Rounds,c_Members,c_Node,c_Tree⟩:Cl) wd t (i+1) Hz D' ws'->D'.ct=D.ct->Stp D ws wd H6 Hz D' ws'->R [some (.ref t),some (.ref wd),some (.ref l),some (.int D.ct),some (.ref p4),some (.str x),some v,some u,none] Hz:=fun a Hz D' ws' av au J' ec st=>hR _ _ (by
     walk_at "rd"
     refine ziw au.deep av.deep (zfa a) ⟨_,rfl,iteT ?_⟩
     refine au.isl ?_
     walk_at "rd"
     refine av.isl ?_
     walk_at "rd"
     intro p hp
     have:decide True=true:=rfl
     rw [this]
     exact k D' ws' p _ (J'.same (zai hp)) (by rw [zab,ec]) (st.post (zai hp)))
    clear hR
    walk_at "rd"
    rcases cd with ⟨s7,nl,au⟩ | ⟨n,un,c,l2,nr,nk,hx,ea,hu,hc,O7,dd,rfl,h2⟩
    ·have av7:=av.same s7
     refine av7.isl ⟨_,rfl,?_⟩
     rw [nl]
     exact iteF (ret (takeA D x) H7 D ws av7 au (J.same s7).next rfl (Stp.refl s7))
    ·have ea2:takeA D x = .lst (n.qu.map (·.1)):=by rw [zoj nr hx,if_neg (fun z=>z nk)]
     rw [ea2] at av
     have av7:=av.deed J.O dd vf
     refine av7.isl ⟨_,rfl,iteT ?_⟩
     have hd7:=dd _ _ J.nw J.G.hd
     have wx:∃ w0,wfn ws x=some w0:=by
      rcases J.M.fnd J.W nr with ⟨q,_⟩ | ⟨_,w0,_,q,_⟩
      ·rw [hx] at q; cases q
      ·exact ⟨w0,q⟩
     obtain ⟨w0,hw0⟩:=wx
     simp only [L2.tDPop1]
     walk_at "rd"
     refine ⟨.inl ⟨_,.inl hd7⟩,_,hd7,Sum.inr x,rfl,⟨.ref w0.q,by rw [zfn,hw0]; rfl⟩,?_⟩
     rw [zuh]
     obtain ⟨J',st⟩:=J.take nr nk hx ea hu hc O7 dd
     have vw:v≠.ref wd:=fun z=>by
      obtain ⟨p,e,hp⟩:=av7
      rw [z] at e; cases e
      rw [hd7] at hp; cases hp
     have uw:(V.ref l2)≠.ref wd:=fun z=>by cases z; rw [hd7] at h2; cases h2
     exact ret (.lst (n.qu.map (·.1))) _ _ _ (av7.upd vw) (AnsV.upd (a:=.lst (n.qu.map (·.1))) uw ⟨l2,rfl,h2⟩) J'.next rfl st)
   clear hR
   walk_at "rd"
   exact ⟨D,x,by rw [J.p],J.O,J.W,fit,ql9,fun u H7 s7 nl au=>post u H7 (.inl ⟨s7,nl,au⟩),fun nr nk n un c l2 H7 hx ea hu hc O7 dd _ _ h2=>post _ H7 (.inr ⟨n,un,c,l2,nr,nk,hx,ea,hu,hc,O7,dd,rfl,h2⟩)⟩)
  clear hGp
  walk_at "rd"
  have on:R [some (.ref t),some (.ref wd),some (.ref l),some (.int D.ct),some (.ref p4),some (.str x),none,none,none] H5:=hR _ _ (by
   clear hR takec
   obtain ⟨dx,fs,hp,ft⟩:=J.O.ex
   rw [J.p] at hp
   have m1:=J.W.m1
   refine zae fun R hR=>?_
   walk_at "rd"
   refine zap hp T.cl_Tree T.na_Tree_most ft.mo ?_
   walk_at "rd"
   refine ⟨l,D.most,xs,rfl,m1.1,hl,by omega,fun len H6 s6=>hR _ _ ?_⟩
   clear hR
   have J:=J.same s6
   have k:∀ D' ws' p H',LJ (⟨c_Node,c_Starts,c_Rounds,c_Members,c_Node,c_Tree⟩:Cl) wd t (i+1) H' D' ws'->H' p=some (.tup [.bl true,.int D'.ct])->Stp D ws wd H6 H' D' ws'->Q (.ref p) H':=fun D' ws' p H' a b c=>k D' ws' p H' a b (c.pre s6)
   refine zae fun R hR=>?_
   walk_at "rd"
   refine ⟨wd,D,ws,x,len,by rw [J.p],J.O,J.G,J.W,J.M,fun w hw=>⟨qw9 w hw,rms w hw⟩,fun v H7 s7 av=>hR _ _ ?_⟩
   clear hR
   have J:=J.same s7
   have k:∀ D' ws' p H',LJ (⟨c_Node,c_Starts,c_Rounds,c_Members,c_Node,c_Tree⟩:Cl) wd t (i+1) H' D' ws'->H' p=some (.tup [.bl true,.int D'.ct])->Stp D ws wd H7 H' D' ws'->Q (.ref p) H':=fun D' ws' p H' a b c=>k D' ws' p H' a b (c.pre s7)
   refine zae fun R hR=>?_
   have post:∀ (u:V) (H8:Hp),((Same H7 H8/\(comeA D x len).isNum=false/\AnsV H8 u (comeA D x len))\/(∃ n q,comeA D x len = .num D.ct/\fndN D.ns x=some n/\n.ch=none/\H7 q=none/\TrOk (⟨c_Node,c_Starts,c_Rounds,c_Members,c_Node,c_Tree⟩:Cl) H8 (TD.come D n q len)/\Deed D.foot H7 H8/\u = .int D.ct))->R [some (.ref t),some (.ref wd),some (.ref l),some (.int D.ct),some (.ref p4),some (.str x),some v,some u,some (.int len)] H8:=fun u H8 cd=>hR _ _ (by
    clear hR
    refine zae fun R hR=>?_
    walk_at "rd"
    rcases cd with ⟨s8,nn,au⟩ | ⟨n,q,ea,hx,hc,hq,O8,dd,rfl⟩
    ·have av8:=av.same s8
     refine ⟨v,_,rfl,av8,_,rfl,?_⟩
     rw [nn]
     refine iteF (hR _ _ ?_)
     walk_at "rd"
     refine ziw au.deep av8.deep (zfa _) ⟨_,rfl,iteT ?_⟩
     refine ⟨u,_,rfl,au,_,rfl,?_⟩
     rw [nn]
     intro p hp
     exact k D ws p _ (((J.same s8).same (zai hp)).next) zab ((Stp.refl s8).post (zai hp))
    ·rw [ea] at av
     have av:v = .int D.ct:=av
     subst av
     refine ⟨_,.num D.ct,rfl,rfl,_,rfl,iteT ?_⟩
     have nr:x≠road:=fun z=>by rw [zlq (.inl z)] at ea; cases ea
     obtain ⟨w0,hw0,nw⟩:∃ w0,wfn ws x=some w0/\NW n w0:=by
      rcases J.M.fnd J.W nr with ⟨q,_⟩ | ⟨n',w0,q1,q2,nw⟩
      ·rw [hx] at q; cases q
      ·rw [hx] at q1; cases q1
       exact ⟨w0,q2,nw⟩
     have win:=(zfv hw0).1
     cases hl0:w0.ql with
     | none=>exact absurd hl0 (nw.lf.mp hc)
     | some l0 =>
     have tup:∀ {b xs},H7 b=some (.tup xs)->b ∉ D.foot:=fun {b xs} e=>J.O.notup e
     have G8:WdOk H8 wd ws:=⟨dd _ _ J.nw J.G.hd,fun w hw=>dd _ _ (tup (J.G.ht w hw)) (J.G.ht w hw),fun w hw l e=>⟨dd _ _ (J.nl l (mem_lists.mpr ⟨w,hw,e⟩)) (J.G.hg w hw l e).hl,(J.G.hg w hw l e).r.keep fun p y hp=>dd _ _ (tup hp) hp⟩⟩
     refine zae fun R2 hR2=>?_
     walk_at "rd"
     refine ⟨_,we_at G8 hw0,?_⟩
     refine zed (.of (G8.ht w0 win)) (v:=lV w0.ql) rfl ?_
     rw [show lV w0.ql = .ref l0 by rw [hl0]; rfl]
     have R0:=G8.hg w0 win l0 hl0
     refine ⟨zgl R0.hl,fun q2 hq2=>?_⟩
     have sn:=zai (o:=.tup [.int D.ct,.int len]) hq2
     refine zix (sn _ _ R0.hl) (by rw [List.length_map]; have:=J.qw w0 win; omega) (hR2 _ _ ?_)
     obtain ⟨J',st⟩:=J.come hx nr hw0 hl0 O8 hq dd hq2
     rw [List.map_append] at J' st
     refine (show tRet _ _ [some (.ref t),some (.ref wd),some (.ref l),some (.int D.ct),some (.ref p4),some (.str x),some (.int D.ct),some (.int D.ct),some (.int len)] (upd (upd H8 q2 (.tup [.int D.ct,.int len])) l0 (.lst (w0.ps.map V.ref++[q2].map V.ref))) from ?_)
     generalize upd (upd H8 q2 (.tup [.int D.ct,.int len])) l0 (.lst (w0.ps.map V.ref++[q2].map V.ref))=H9 at J' st ⊢
     walk_at "rd"
     refine ⟨_,.num D.ct,rfl,rfl,_,rfl,iteT ?_⟩
     refine ziw (d:=.int D.ct) (.int _) (.int _) rfl ?_
     intro p hp
     exact k _ _ p _ (J'.same (zai hp)) zab (st.post (zai hp)))
   clear hR
   walk_at "rd"
   exact ⟨D,x,len,by rw [J.p],J.O,J.W,fun n hn=>⟨Nat.le_trans (J.ql n hn).1 (by omega),(J.ql n hn).2⟩,fun u H8 s8 nn au=>post u H8 (.inl ⟨s8,nn,au⟩),fun n q H8 ea hx hc hq O8 dd=>post _ H8 (.inr ⟨n,q,ea,hx,hc,hq,O8,dd,rfl⟩)⟩)
  clear hR
  refine ixNum 0 hl (by omega) fun y0' _=>⟨_,rfl,?_⟩
  refine ite2 (fun _=>?_) fun _=>on
  refine ixNum 4 hl (by omega) fun y4 _=>⟨_,rfl,?_⟩
  exact ite2 (fun _=>takec) fun _=>on
def zuj (C:Cl):Sp:=fun vs H Q _=>∃ (wd t:Addr) (i:Nat) (D:TD) (ws:List WE) (x:Str),vs = [.ref t,.ref wd,.str x]/\LJ C wd t i H D ws/\PyData.strOk x=true/\∀ H',Same H H'->Q (.bl true) H'
theorem zlt (T:Txt K mg c_NoName c_Taken c_NoClass c_NoPlace c_NoShare c_NoLength c_Members c_Chooser c_Starts c_Rounds c_Node c_Tree):Def P w K mg base (CXX P w) 4 "_law_stands" ["_law_tree", "_law_world", "_law_name_here"] (zuj (⟨c_Node,c_Starts,c_Rounds,c_Members,c_Node,c_Tree⟩:Cl)):=by
 have M_Tree_below:=zng (P:=P) (w:=w) (base:=base) T
 have M_Tree_way:=zqk (P:=P) (w:=w) (base:=base) T
 refine T.src__law_stands.okN (k:=3) sc__law_stands (fun vs H Q E h=>?_) (fun f cdv A outer s H vs Q E hr h=>?_)
 ·obtain ⟨wd,t,i,D,ws,x,rfl,_⟩:=h
  rfl
 ·obtain ⟨wd,t,i,D,ws,x,rfl,J,xok,k⟩:=h
  refine ⟨_,(zad (zqw PassesOwn.never rfl (zet K rfl (pe_op zrj (zea (zaa zbd zag)) (zfw (zhj K rfl) (zhh (zgc rfl) rfl T.no_list boot_list (zaa (pv 1) zag)) (zgs (pe_un zov zak)) ziq))) (zbs (i:=3) sc__law_stands.nd rfl (by first|left;rfl|right;rfl)) (zaf (ps_if (zau (zky K rfl hr.units) (zaw (dvs:=[]) M_Tree_below (by simp) T.cl_Tree (hr.mono (by decide)) passN (pv 0) (zaa (pv 3) zag)) (zsn (pe_lc ["_law_one", "_law_place"] [("_law_above", 3)] rfl (by with_unfolding_all rfl) (by decide +kernel) rfl (by decide +kernel) (by exact ⟨rfl,True.intro⟩) (by with_unfolding_all rfl) ⟨⟨rfl,rfl,rfl⟩,True.intro⟩ (zts (pv 1)) (fun _ _ _=>(zgu (n:=2) K rfl rfl (zct (zbs (i:=0) (show (["_law_one", "_law_place", "_law_above"]:List Str).Nodup from by decide +kernel) rfl (by first|left;rfl|right;rfl)) (zct (zbs (i:=1) (show (["_law_one", "_law_place", "_law_above"]:List Str).Nodup from by decide +kernel) rfl (by first|left;rfl|right;rfl)) zgr)))) (fun _ _ _=>(zpa (zau op_eq (pe_ix (zdc K rfl) (pv 1) zak (fun _ _=>rfl)) (pv 2) (zba _)))) (fun _ _ _=>(pv 0)))) (zba _)) (zaf (zar pe_bl)) zaq))) (zad (ps_if (zgk (zeo (hu_of hr) (pv 2) (pv 1))) (zaf (zar pe_bl)) zaq) (zad (zbg (i:=4) sc__law_stands.nd rfl (by first|left;rfl|right;rfl) (zea (zaa (pv 2) zag))) (zad (ps_if (zau op_ne (pe_ix (zdc K rfl) (zca (hu_of hr) (pv 1) (pv 2) (fun _ _=>rfl)) zak (fun _ _=>rfl)) zbd (zba _)) (zaf (zbg (i:=4) sc__law_stands.nd rfl (by first|left;rfl|right;rfl) (zea (zaa (pe_ix (zdc K rfl) (zca (hu_of hr) (pv 1) (pv 2) (fun _ _=>rfl)) zak (fun _ _=>rfl)) (zaa (pv 2) zag))))) zaq) (zaf (zar (zep (ziv K rfl hr.units) (zaw (dvs:=[]) M_Tree_way (by simp) T.cl_Tree (hr.mono (by decide)) passN (pv 0) (zaa (pv 2) zag)) (pv 4) (zba _)))))))),?_⟩
  show tSeq _ _ _ [some (.ref t),some (.ref wd),some (.str x),none,none] H
  obtain ⟨nrd,hnrd,hard,_⟩:=J.W.rdN
  have kok:∀ u:Str,∀ z∈kids D.ns u,PyData.strOk z=true:=fun u z hz=>by
   unfold kids at hz
   obtain ⟨n,hn,rfl⟩:=List.mem_map.mp hz
   exact (J.W.sok n (List.mem_filter.mp hn).1).1
  refine zae fun R hR=>?_
  refine zla fun Z hZ=>?_
  walk_at "rd"
  intro p1 f1
  have s1:=zai (o:=.lst [.str (Str.ofString "road")]) f1
  refine ⟨wd,_,rfl,s1 _ _ J.G.hd,fun p2 f2=>?_⟩
  have ek:((weK ws).map fun kv=>kV kv.1)=(ws.map (·.nm)).map V.str:=by
   unfold weK
   rw [List.map_map,List.map_map]; rfl
  rw [ek]
  have s2:=s1.trans (zai (o:=.lst ((ws.map (·.nm)).map V.str)) f2)
  have h1:=zai (o:=.lst ((ws.map (·.nm)).map V.str)) f2 p1 _ zab
  refine zmj (.of zab) fun p3 f3=>?_
  obtain ⟨m2,em2,lm2,mm2⟩:=zsx (ws.map (·.nm)) (some (-2)) none
  rw [em2]
  have s3:=s2.trans (zai (o:=.lst (m2.map V.str)) f3)
  have wl:=J.wl
  refine ⟨p1,p3,_,_,rfl,rfl,zai f3 _ _ h1,zab,zfq (by rw [List.length_map]; rw [List.length_map] at lm2; simp only [List.length_cons,List.length_nil]; omega),fun p4 f4=>?_⟩
  have s4:=s3.trans (zai (o:=.lst ([.str (Str.ofString "road")]++m2.map V.str)) f4)
  have h4:upd (upd (upd (upd H p1 (.lst [.str (Str.ofString "road")])) p2 (.lst ((ws.map (·.nm)).map V.str))) p3 (.lst (m2.map V.str))) p4 (.lst ([.str (Str.ofString "road")]++m2.map V.str)) p4=some (.lst ((road :: m2).map V.str)):=zab
  refine ⟨p4,rfl,⟨_,.of zab⟩,hZ _ _ ?_⟩
  clear hZ
  generalize upd (upd (upd (upd H p1 (.lst [.str (Str.ofString "road")])) p2 (.lst ((ws.map (·.nm)).map V.str))) p3 (.lst (m2.map V.str))) p4 (.lst ([.str (Str.ofString "road")]++m2.map V.str))=H4 at s4 h4 ⊢
  refine zou (K:=K) (a:=p4) (xs:=(road :: m2).map V.str) (fun i σ H'=>(∃ v3,σ = [some (.ref t),some (.ref wd),some (.str x),v3,none])/\Same H4 H') ⟨⟨none,rfl⟩,Same.refl _⟩ (fun i σ H' _ h=>.of (h.2 _ _ h4)) ?_ ?_
  ·rintro i v σ H5 hv ⟨⟨v3,rfl⟩,s5⟩
   obtain ⟨y,hy,rfl⟩:∃ y∈road :: m2,v=V.str y:=by
    rw [List.getElem?_map] at hv
    cases e:(road :: m2)[i]? with
    | none=>rw [e] at hv; cases hv
    | some z=>rw [e] at hv; cases hv; exact ⟨z,List.mem_of_getElem? e,rfl⟩
   have s5:=s4.trans s5
   have hyn:fndN D.ns y≠none:=by
    rcases List.mem_cons.mp hy with q | q
    ·rw [q,hnrd]; simp
    ·obtain ⟨w1,hw1,rfl⟩:=List.mem_map.mp (mm2 y q)
     obtain ⟨_,n,hn,_⟩:=J.M.inn J.W (zpw (J.M.nd J.W) hw1)
     rw [hn]; simp
   show tIfS _ _ _ _ [some (.ref t),some (.ref wd),some (.str x),some (.str y),none] H5
   refine ziy fun N hN=>?_
   have J5:=J.same s5
   obtain ⟨dx,fs,hp,ft⟩:=J5.O.ex
   rw [J5.p] at hp
   walk_at "rd"
   refine zbc hp (ft.mis _ (by decide +kernel) (by decide +kernel) (by decide +kernel) (by decide +kernel) (by decide +kernel) (by decide +kernel)) ⟨D,y,by rw [J5.p],J5.O,J5.W,fun z=>absurd z hyn,fun _ l6 H6 s6 f6 h6=>?_⟩
   have G:=J5.G.same s6
   unfold tThaw
   walk_at "rd"
   unfold zuw
   walk_at "rd"
   refine ⟨_,G.hd,fun o L hL=>?_⟩
   have nL:L≠wd:=fun z=>by rw [z,zab] at hL; cases hL
   have nq:∀ w∈ws,w.q≠wd:=fun w0 win z=>by have ht:=G.ht w0 win; rw [z,G.hd] at ht; cases ht
   have lk:(weK ws).length=ws.length:=List.length_map _
   refine zqg (fun i τ H'=>(∃ v0 v1,τ = [v0,v1,some (.str y)])/\Same (upd H6 wd (.frz o (.dK (weK ws)))) H'/\H' L=some (.lst ((((ws.take i).filter fun w=>decide (w.ab=y)).map (·.nm)).map V.str))) ⟨⟨none,none,rfl⟩,zai hL,zab⟩ (fun i τ H' _ ⟨_,sm,_⟩=>sm _ _ zab) ?_ ?_
   ·rintro i kv τ H7 p hkv ⟨⟨v0,v1,rfl⟩,sm,hLl⟩ hp
    obtain ⟨w0,hw,rfl⟩:∃ w0,ws[i]? = some w0/\((Sum.inr w0.nm:Key),V.ref w0.q)=kv:=by
     unfold weK at hkv
     rw [List.getElem?_map] at hkv
     cases e:ws[i]? with
     | none=>rw [e] at hkv; cases hkv
     | some p=>rw [e] at hkv; exact ⟨p,rfl,Option.some.inj hkv⟩
    have win:=List.mem_of_getElem? hw
    have sn:=zai (o:=.tup [kV (Sum.inr w0.nm:Key),V.ref w0.q]) hp
    have sm:=sm.trans sn
    have hLl:=sn _ _ hLl
    refine ⟨p,_,rfl,.of zab,rfl,?_⟩
    generalize upd H7 p (.tup [kV (Sum.inr w0.nm:Key),V.ref w0.q])=H8 at sm hLl ⊢
    walk_at "rd"
    have ht:H8 w0.q=some (.tup [.str w0.ab,lV w0.ql,w0.rm]):=sm _ _ (by rw [zah (nq w0 win)]; exact G.ht w0 win)
    have ta:(ws.take (i+1)).filter (fun w=>decide (w.ab=y))=(ws.take i).filter (fun w=>decide (w.ab=y))++(if decide (w0.ab=y)=true then [w0] else []):=by
     rw [zfm hw,List.filter_append,List.filter_cons,List.filter_nil]
    refine zed (.of ht) (v:=.str w0.ab) rfl ?_
    walk_at "rd"
    refine ite2 (fun c=>?_) fun c=>⟨sm,?_⟩
    ·refine ⟨_,hLl,zfl ?_,fun b u' e=>?_,?_⟩
     ·rw [List.length_map,List.length_map]
      have:=List.length_filter_le (fun w:WE=>decide (w.ab=y)) (ws.take i)
      rw [List.length_take] at this
      omega
     ·rw [zah (zao e hL)]; exact sm _ _ e
     ·rw [zab,ta,if_pos (by simp [c]),List.map_append,List.map_append]; rfl
    ·rw [ta,if_neg (by simp [c]),List.append_nil]; exact hLl
   ·rintro τ H7 ⟨_,sm,hLl⟩
    rw [lk,List.take_length] at hLl
    refine ⟨wd,⟨_,G.hd⟩,o,_,sm _ _ zab,?_⟩
    have s8:Same H6 (upd H7 wd (.dK (weK ws))):=fun b u' e=>by
     by_cases z:b=wd
     ·subst z
      rw [G.hd] at e; cases e
      exact zab
     ·rw [zah z]
      exact sm _ _ (by rw [zah z]; exact e)
    have h8:upd H7 wd (.dK (weK ws)) L=some (.lst ((kids D.ns y).map V.str)):=by rw [zah nL,J.M.kids J.W]; exact hLl
    refine zkz (d:=.list ((kids D.ns y).map PyData.str)) (.lst (.of (s8 _ _ h6)) (zff _)) (.lst (.of h8) (zff _)) (zjd _ (kok _)) ⟨_,rfl,?_⟩
    walk_at "rd"
    exact hN _ _ ⟨⟨_,rfl⟩,fun b o e=>s8 _ _ (s6 _ _ ((‹Same H4 H5›:Same H4 H5) _ _ e))⟩
  ·rintro σ H5 ⟨⟨v3,rfl⟩,s5⟩
   refine hR _ _ ?_
   clear hR
   have s5:=s4.trans s5
   have J5:=J.same s5
   refine zae fun R hR=>?_
   walk_at "rd"
   refine ⟨_,DGet.k (k:=Sum.inr x) J5.G.hd,?_⟩
   rw [zfn]
   cases hx:wfn ws x with
   | none=>exact k _ s5
   | some w0 =>
   refine hR _ _ ?_
   clear hR
   obtain ⟨nr,n,hn,nw⟩:=J5.M.inn J5.W hx
   have win:=(zfv hx).1
   have Ur:Up D.ns road [road]:=.top hnrd hard
   refine zae fun R hR=>?_
   walk_at "rd"
   intro p6 f6
   refine hR _ _ ?_
   clear hR
   have s6:=s5.trans (zai (o:=.lst [.str x]) f6)
   have h6:upd H5 p6 (.lst [.str x]) p6=some (.lst ([x].map V.str)):=zab
   refine (show tSeq _ _ _ [some (.ref t),some (.ref wd),some (.str x),v3,some (.ref p6)] (upd H5 p6 (.lst [.str x])) from ?_)
   generalize upd H5 p6 (.lst [.str x])=H6 at s6 h6 ⊢
   have J6:=J.same s6
   refine zae fun R hR=>?_
   have fin:∀ (zs:List Str) (q:Addr) (H7:Hp),Same H H7->H7 q=some (.lst (zs.map V.str))->(∀ z∈zs,PyData.strOk z=true)->Up D.ns x (zs.reverse++[road])->R [some (.ref t),some (.ref wd),some (.str x),v3,some (.ref q)] H7:=fun zs q H7 s7 h7 oz U=>hR _ _ (by
    clear hR
    have J7:=J.same s7
    obtain ⟨dx,fs,hp,ft⟩:=J7.O.ex
    rw [J7.p] at hp
    walk_at "rd"
    refine zbc hp (ft.mis _ (by decide +kernel) (by decide +kernel) (by decide +kernel) (by decide +kernel) (by decide +kernel) (by decide +kernel)) ⟨D,x,by rw [J7.p],J7.O,J7.W,fun z=>?_,fun _ ys' U' l8 H8 s8 f8 h8=>?_⟩
    ·rcases z with z | z
     ·exact absurd z nr
     ·rw [hn] at z; cases z
    rw [<- U.det U'] at h8
    have e8:(zs.reverse++[road]).reverse.tail=zs:=by simp
    rw [e8] at h8
    exact ziw (d:=.list (zs.map PyData.str)) (.lst (.of h8) (zff _)) (.lst (.of (s8 _ _ h7)) (zff _)) (zjd _ oz) (k _ (s7.trans s8)))
   clear hR
   walk_at "rd"
   refine ⟨_,we_at J6.G hx,?_⟩
   refine zed (.of (J6.G.ht w0 win)) (v:=.str w0.ab) rfl ?_
   by_cases c:w0.ab=road
   ·refine ⟨rfl,ite2 (fun _=>fin [x] p6 H6 s6 h6 (fun z hz=>by rw [List.mem_singleton.mp hz]; exact xok) (.on hn (by rw [nw.ab,c]) Ur)) fun z=>absurd (by rw [c]; rfl) z⟩
   ·refine ⟨rfl,ite2 (fun z=>absurd (V.str.inj z) c) fun _=>?_⟩
    refine ⟨_,we_at J6.G hx,?_⟩
    refine zed (.of (J6.G.ht w0 win)) (v:=.str w0.ab) rfl ?_
    intro p7 f7
    obtain ⟨w',e1,e2⟩:=J.dp w0 win c
    obtain ⟨_,n',hn',nw'⟩:=J.M.inn J.W e1
    refine fin [w0.ab,x] p7 _ (s6.trans (zai f7)) zab (fun z hz=>?_) (.on hn nw.ab (.on hn' (by rw [nw'.ab,e2]) Ur))
    simp only [List.mem_cons,List.not_mem_nil,or_false] at hz
    rcases hz with q | q
    ·rw [q]
     have:=J.W.sok n' (zbm hn').1
     rw [(zbm hn').2] at this
     exact this.1
    ·rw [q]; exact xok
theorem LJ.free {C:Cl} {wd t:Addr} {i:Nat} {H:Hp} {D:TD} {ws:List WE} (J:LJ C wd t i H D ws) {b:Addr} (e:H b=none):b ∉ D.foot/\b ∉ lists ws/\b≠wd:=by
 refine ⟨J.O.free e,fun z=>?_,fun z=>by rw [z,J.G.hd] at e; cases e⟩
 obtain ⟨w,hw,el⟩:=mem_lists.mp z
 have:=(J.G.hg w hw b el).hl
 rw [e] at this; cases this
theorem Stp.keep {D D':TD} {ws ws':List WE} {wd b:Addr} {H H':Hp} {o:HO} (h:Stp D ws wd H H' D' ws') (n1:b ∉ D.foot/\b ∉ lists ws/\b≠wd) (e:H b=some o):H' b=some o/\(b ∉ D'.foot/\b ∉ lists ws'/\b≠wd):=by
 have no:∀ z,(z∈D'.foot\/z∈lists ws')->z=b->False:=fun z hz q=>by
  subst q
  rcases h.fr _ hz with y | y | y
  ·exact n1.1 y
  ·exact n1.2.1 y
  ·rw [e] at y; cases y
 exact ⟨h.kp b o n1.1 n1.2.2 n1.2.1 e,fun z=>no b (.inl z) rfl,fun z=>no b (.inr z) rfl,n1.2.2⟩
theorem zuk (xs:List V):cutV xs none (some (-1))=xs.take (xs.length-1):=by
 unfold cutV
 rw [HT.sIx_none]
 cases xs with
 | nil=>rfl
 | cons a r =>
  have:HT.sIx (a :: r).length (a :: r).length (some (-1))=(a :: r).length-1:=by
   unfold HT.sIx
   simp
   omega
  rw [this]; simp
theorem LJ.other {C:Cl} {wd t b:Addr} {i:Nat} {H:Hp} {D:TD} {ws:List WE} {xs:List V} {o:HO} (J:LJ C wd t i H D ws) (n:b ∉ D.foot/\b ∉ lists ws/\b≠wd) (e:H b=some (.lst xs)):LJ C wd t i (upd H b o) D ws:=by
 have kp:∀ c u,c≠b->H c=some u->upd H b o c=some u:=fun c u q h=>by rw [zah q]; exact h
 have tp:∀ {c ys},H c=some (.tup ys)->c≠b:=fun {c ys} h z=>by rw [z,e] at h; cases h
 refine ⟨J.O.other n.1 e (by intro _ z; cases z),J.W,J.F,⟨kp _ _ n.2.2.symm J.G.hd,fun w hw=>kp _ _ (tp (J.G.ht w hw)) (J.G.ht w hw),fun w hw l el=>?_⟩,J.M,J.nw,J.nl,J.ld,J.p,J.wl,J.ln,J.ql,J.qw,J.tm,J.gs,J.dp⟩
 have R0:=J.G.hg w hw l el
 have:l≠b:=fun z=>n.2.1 (z ▸ mem_lists.mpr ⟨w,hw,el⟩)
 exact ⟨kp _ _ this R0.hl,R0.r.keep fun p y hp=>kp _ _ (tp hp) hp⟩
theorem zul {D:TD} {x:Str} {qs:List Int} (h:waitA D x = .lst qs):∃ n∈D.ns,qs=n.qu.map (·.1):=by
 by_cases c:x=road
 ·rw [zif (.inl c)] at h; cases h
 cases hx:fndN D.ns x with
 | none=>rw [zif (.inr hx)] at h; cases h
 | some n =>
  rw [zjq c hx] at h
  split at h
  ·cases h
  ·cases h; exact ⟨n,(zbm hx).1,rfl⟩
theorem zyl {f:Addr} {fd:FuncData} (F:Fun K "law" "law" s_law f fd) (T:Txt K mg c_NoName c_Taken c_NoClass c_NoPlace c_NoShare c_NoLength c_Members c_Chooser c_Starts c_Rounds c_Node c_Tree):FnOk P w K mg base CX0 10 f fd ["_law_script"] (spLaw K):=by
 have D__law_cell_at:=zkf (P:=P) (w:=w) (base:=base) T
 have K_Tree:=zyf (P:=P) (w:=w) (base:=base) T
 have D__law_stream:=zln (P:=P) (w:=w) (base:=base) T
 have D__law_deed:=zop (P:=P) (w:=w) (base:=base) T
 have D__law_waiting:=zkh (P:=P) (w:=w) (base:=base) T
 have D__law_due_waiting:=zhr (P:=P) (w:=w) (base:=base) T
 have D__law_stands:=zlt (P:=P) (w:=w) (base:=base) T
 have M_Tree_goings:=zlp (P:=P) (w:=w) (base:=base) T
 have M_Tree_now:=zql (P:=P) (w:=w) (base:=base) T
 refine F.ok sc_law (fun vs H Q E h=>?_) (fun cdv A outer s H vs Q E hr h=>?_)
 ·obtain ⟨a,ns,rfl,_⟩:=h
  rfl
 ·obtain ⟨sc,ns,rfl,hS,hlen,k⟩:=h
  refine ⟨_,(zad (zbg (i:=1) sc_law.nd rfl (by first|left;rfl|right;rfl) (pe_op zde (zbb D__law_cell_at (hr.mono (by decide)) rfl passN (zaa (pv 0) (zaa zak zag))) zak)) (zad (zbg (i:=2) sc_law.nd rfl (by first|left;rfl|right;rfl) (zhk (dvs:=[V.str (Str.ofString "starts")]) K_Tree (by simp) (hr.mono (by decide)) passN rfl T.mg_Tree (zaa (pe_op zew zak (pe_op zde (pe_op zti (pv 1) zak) (pe_ix (zbe K rfl) (zea (zaa zak (zaa zak (zaa (pe_op zun zak zak) zag)))) (pe_op zde (pv 1) zak) (fun _ _=>rfl)))) zag))) (zad (zbg (i:=3) sc_law.nd rfl (by first|left;rfl|right;rfl) zfz) (zad (zbg (i:=4) sc_law.nd rfl (by first|left;rfl|right;rfl) zak) (zad (zqw PassesOwn.never rfl (zet K rfl (zfw (zhj K rfl) (pv 0) (zgs zak) (zgs zak))) (zbs (i:=1) sc_law.nd rfl (by first|left;rfl|right;rfl)) (zad (zbg (i:=5) sc_law.nd rfl (by first|left;rfl|right;rfl) (zbb D__law_stream (hr.mono (by decide)) rfl passN (zaa (pv 1) (zaa zak zag)))) (zad (zxg (zbb D__law_deed (hr.mono (by decide)) rfl passN (zaa (pv 2) (zaa (pv 3) (zaa (pv 5) (zaa (pv 4) zag))))) (zgu (n:=2) K rfl rfl (zct (zbs (i:=6) sc_law.nd rfl (by first|left;rfl|right;rfl)) (zct (zbs (i:=4) sc_law.nd rfl (by first|left;rfl|right;rfl)) zgr)))) (zad (ps_if (zii (zhz (pv 6))) (zaf (zar pe_bl)) zaq) (zad (zbg (i:=7) sc_law.nd rfl (by first|left;rfl|right;rfl) (pe_op zrj (zea (zaa zbd (zaa zbd zag))) (zhh (zgc rfl) rfl T.no_list boot_list (zaa (pv 3) zag)))) (zad (zbg (i:=8) sc_law.nd rfl (by first|left;rfl|right;rfl) (pe_ix (zbe K rfl) (pv 7) (pe_op zde (pe_ix (zbe K rfl) (pv 5) zak (fun _ _=>rfl)) (zbq (zfe K rfl) rfl T.no_len boot_len (zaa (pv 7) zag))) (fun _ _=>rfl))) (zad (zbg (i:=9) sc_law.nd rfl (by first|left;rfl|right;rfl) (zbb D__law_waiting (hr.mono (by decide)) rfl passN (zaa (pv 2) (zaa (pv 8) zag)))) (zad (ps_if (zau (zky K rfl hr.units) (pv 9) (zbb D__law_due_waiting (hr.mono (by decide)) rfl passN (zaa (pv 3) (zaa (pv 8) zag))) (zba _)) (zaf (zar pe_bl)) zaq) (zad (ps_if (zii (zhz (zbb D__law_stands (hr.mono (by decide)) rfl passN (zaa (pv 2) (zaa (pv 3) (zaa (pv 8) zag)))))) (zaf (zar pe_bl)) zaq) (zaf (ps_if (zhz (zbq (zdw K rfl) rfl T.no_isinstance boot_isinstance (zaa (pv 9) (zaa (zhs (v:=.ty "list") rfl T.no_list boot_list rfl) zag)))) (zad (zav (pe_bm PySem.F.plainAttrs_list PySem.F.slot_list_append PySem.F.type_list_append zen (pv 9) (zaa zak zag))) (zaf (ps_if (zau (zky K rfl hr.units) (zbb D__law_waiting (hr.mono (by decide)) rfl passN (zaa (pv 2) (zaa (pv 8) zag))) (zfw (zhj K rfl) (pv 9) ziq (zgs (pe_un zov zak))) (zba _)) (zaf (zar pe_bl)) zaq))) zaq))))))))))) (zad (zvv PassesOwn.never rfl (pv 3) (zbs (i:=8) sc_law.nd rfl (by first|left;rfl|right;rfl)) (zaf (ps_if (zau (zky K rfl hr.units) (zbb D__law_waiting (hr.mono (by decide)) rfl passN (zaa (pv 2) (zaa (pv 8) zag))) (zbb D__law_due_waiting (hr.mono (by decide)) rfl passN (zaa (pv 3) (zaa (pv 8) zag))) (zba _)) (zaf (zar pe_bl)) zaq))) (zaf (zar (zij (zep (ziv K rfl hr.units) (zeb (dvs:=[]) M_Tree_goings (by simp) T.cl_Tree (hr.mono (by decide)) passN (pv 2)) (zea zag) (zba _)) (zia (zep op_eq (zeb (dvs:=[]) M_Tree_now (by simp) T.cl_Tree (hr.mono (by decide)) passN (pv 2)) zak (zba _)))))))))))),?_⟩
  show tSeq _ _ _ [some (.ref sc),none,none,none,none,none,none,none,none,none] H
  refine zae fun R hR=>?_
  walk_at "rd"
  refine zrs hS (by omega) ⟨_,rfl,hR _ _ ?_⟩
  clear hR
  have c0:=Int.emod_nonneg (cellI ns 0) (show (2147483647:Int)≠0 by decide)
  have c1:=Int.emod_lt_of_pos (cellI ns 0) (show (0:Int)<2147483647 by decide)
  generalize cellI ns 0 % 2147483647=c at c0 c1
  refine zae fun R hR=>?_
  walk_at "rd"
  have r0:=Int.emod_nonneg c (show (3:Int)≠0 by decide)
  have r1:=Int.emod_lt_of_pos c (show (0:Int)<3 by decide)
  intro p1 f1
  have s1:=zai (o:=.lst [.int 9,.int 60,.int 1000000]) f1
  refine pickM [9,60,1000000] r0 (by show c % 3<3; omega) fun md hmd=>?_
  have mdb:1<=md/\md<=1000000:=by
   simp only [List.mem_cons,List.not_mem_nil,or_false] at hmd
   rcases hmd with q | q | q <;> omega
  refine ⟨_,rfl,by omega,fun x dx hx hdx ne=>?_⟩
  have mb:1<=1+c / 3 % md/\1+c / 3 % md<=1000000:=by
   have:=Int.emod_nonneg (c / 3) (show md≠0 by omega)
   have:=Int.emod_lt_of_pos (c / 3) (show (0:Int)<md by omega)
   omega
  generalize 1+c / 3 % md=most at mb
  refine ⟨x,dx,most,_,rfl,zab,fun z=>absurd mb z,fun _ z=>absurd (.inl rfl) z,fun _ _ pn pg n a H' en bt fr O=>⟨rfl,hR _ _ ?_⟩⟩
  clear hR
  have sH:Same H H':=fun b o e=>by
   have e:=s1 _ _ e
   exact bt b o (zao e hx) (zdr hx hdx _ _ e)
  have hS:=sH.seq hS
  clear bt fr hx hdx s1 f1
  refine zae fun R hR=>?_
  walk_at "rd"
  intro wd hwd
  refine hR _ _ ?_
  clear hR
  have s1:=zai (o:=.dK []) hwd
  have hS:=s1.seq hS
  have wF:=O.free hwd
  have O:=O.same s1
  have W0:TD.Wf ⟨x,pn,pg,most,0,0,0,[n],[],[]⟩:=TD.Wf.new (n:=n) (a:=a) (b:=kdB (Str.ofString "starts")) rfl (by rw [en]) (by rw [en]) (by rw [en]) mb
  have J:LJ (⟨c_Node,c_Starts,c_Rounds,c_Members,c_Node,c_Tree⟩:Cl) wd x 0 (upd H' wd (.dK [])) ⟨x,pn,pg,most,0,0,0,[n],[],[]⟩ []:=by
   refine ⟨O,W0,fun y hy d hd=>?_,⟨zab,fun w hw=>absurd hw List.not_mem_nil,fun w hw=>absurd hw List.not_mem_nil⟩,⟨n,[],rfl,.nil⟩,wF,fun l hl=>absurd hl List.not_mem_nil,.nil,rfl,Nat.zero_le _,rfl,fun y hy=>?_,fun w hw=>absurd hw List.not_mem_nil,rfl,rfl,fun w hw=>absurd hw List.not_mem_nil⟩
   ·rw [List.mem_singleton.mp hy,en] at hd
    cases hd
    show (CSt.new (kdB (Str.ofString "starts"))).sz<=0
    have:(CSt.new (kdB (Str.ofString "starts"))).sz = 0:=by cases kdB (Str.ofString "starts") <;> rfl
    rw [this]; exact Nat.le_refl _
   ·rw [List.mem_singleton.mp hy,en]
    exact ⟨Nat.le_refl _,.inl rfl⟩
  refine (show tSeq _ _ _ [some (.ref sc),some (.int c),some (.ref x),some (.ref wd),none,none,none,none,none,none] (upd H' wd (.dK [])) from ?_)
  generalize upd H' wd (.dK [])=H1 at s1 hS J ⊢
  clear O W0 s1 hwd sH wF
  refine zae fun R hR=>?_
  walk_at "rd"
  refine hR _ _ ?_
  clear hR
  refine zae fun R hR=>?_
  refine zla fun Z hZ=>?_
  walk_at "rd"
  obtain ⟨ms,em,hm⟩:=zrw ns (some 1) (some 31)
  have ml:ms.length<=30:=by
   have:=zwj (ns.map V.int) 1 31
   rw [show cutV (ns.map V.int) (some ((1:Nat):Int)) (some ((31:Nat):Int))=cutV (ns.map V.int) (some 1) (some 31) from rfl,em,List.length_map] at this
   exact this
  refine zmj hS fun sl hsl=>?_
  walk_at "rd"
  refine ⟨⟨_,.of zab⟩,hZ _ _ ?_⟩
  clear hZ
  rw [em]
  have s2:=zai (o:=.lst (ms.map V.int)) hsl
  have h2:upd H1 sl (.lst (ms.map V.int)) sl=some (.lst (ms.map V.int)):=zab
  have fsl:=J.free hsl
  have J:=J.same s2
  generalize upd H1 sl (.lst (ms.map V.int))=H2 at J h2 ⊢
  clear s2 hsl hS
  refine zou (K:=K) (a:=sl) (xs:=ms.map V.int) (fun i σ H'=>∃ v1 v5 v6 v7 v8 v9 D ws,σ = [some (.ref sc),v1,some (.ref x),some (.ref wd),some (.int (D:TD).ct),v5,v6,v7,v8,v9]/\LJ (⟨c_Node,c_Starts,c_Rounds,c_Members,c_Node,c_Tree⟩:Cl) wd x i H' D ws/\H' sl=some (.lst (ms.map V.int))/\(sl ∉ D.foot/\sl ∉ lists ws/\sl≠wd)) ⟨_,_,_,_,_,_,_,_,rfl,J,h2,fsl⟩ (fun i σ H' _ ⟨_,_,_,_,_,_,_,_,_,_,h,_⟩=>.of h) ?_ ?_
  ·rintro i v σ H3 hv ⟨v1,v5,v6,v7,v8,v9,D,ws,rfl,J,hsl,fsl⟩
   obtain ⟨y,rfl⟩:∃ y,v=V.int y:=by
    rw [List.getElem?_map] at hv
    cases e:ms[i]? with
    | none=>rw [e] at hv; cases hv
    | some z=>rw [e] at hv; cases hv; exact ⟨z,rfl⟩
   have hi:i<30:=by
    have:=(List.getElem?_eq_some_iff.mp hv).1
    rw [List.length_map] at this
    omega
   show tSeq _ _ _ [some (.ref sc),some (.int y),some (.ref x),some (.ref wd),some (.int D.ct),v5,v6,v7,v8,v9] H3
   refine ziy fun N hN=>?_
   refine zae fun R hR=>?_
   walk_at "rd"
   refine ⟨y,8,rfl,by decide,fun px xs H4 s4 fpx hpx lx bx=>hR _ _ ?_⟩
   clear hR
   have fpx:=J.free fpx
   have J:=J.same s4
   have hsl:=s4 _ _ hsl
   clear s4
   refine zae fun R hR=>?_
   walk_at "rd"
   refine ⟨wd,x,px,i,D,ws,xs,rfl,J,by omega,hpx,by omega,fun m hm=>(bx m hm).1,fun D' ws' p H5 J' hp5 st=>?_⟩
   obtain ⟨hsl,fsl⟩:=st.keep fsl hsl
   obtain ⟨hpx,_⟩:=st.keep fpx hpx
   suffices on:R [some (.ref sc),some (.int y),some (.ref x),some (.ref wd),some (.int D'.ct),some (.ref px),some (.bl true),v7,v8,v9] H5 by
    first
     | exact ⟨p,rfl,_,.of hp5,rfl,_,_,rfl,_,_,rfl,rfl,on⟩
     | exact ⟨p,rfl,_,.of hp5,rfl,_,_,rfl,_,rfl,on⟩
     | exact ⟨p,rfl,_,.of hp5,rfl,_,_,rfl,on⟩
     | exact ⟨p,rfl,_,.of hp5,_,_,rfl,rfl,on⟩
   refine hR _ _ ?_
   clear hR st J fpx
   refine (show tSeq _ _ _ [some (.ref sc),some (.int y),some (.ref x),some (.ref wd),some (.int D'.ct),some (.ref px),some (.bl true),v7,v8,v9] H5 from ?_)
   refine zae fun R hR=>?_
   walk_at "rd"
   refine hR _ _ ?_
   clear hR
   refine zae fun R hR=>?_
   walk_at "rd"
   intro p1 f1
   have s1:=zai (o:=.lst [.str (Str.ofString "road"),.str (Str.ofString "zz")]) f1
   refine ⟨wd,_,rfl,s1 _ _ J'.G.hd,fun p2 f2=>?_⟩
   have ek:((weK ws').map fun kv=>kV kv.1)=(ws'.map (·.nm)).map V.str:=by
    unfold weK
    rw [List.map_map,List.map_map]; rfl
   rw [ek]
   have s2:=s1.trans (zai (o:=.lst ((ws'.map (·.nm)).map V.str)) f2)
   have h1:=zai (o:=.lst ((ws'.map (·.nm)).map V.str)) f2 p1 _ zab
   have wlen:(ws'.map (·.nm)).length<=12:=by rw [List.length_map]; exact J'.wl
   refine ⟨p1,p2,_,_,rfl,rfl,h1,zab,zfq (by rw [List.length_map]; simp only [List.length_cons,List.length_nil]; omega),fun p3 f3=>hR _ _ ?_⟩
   clear hR
   have s3:=s2.trans (zai (o:=.lst ([.str (Str.ofString "road"),.str (Str.ofString "zz")]++(ws'.map (·.nm)).map V.str)) f3)
   have h3:upd (upd (upd H5 p1 (.lst [.str (Str.ofString "road"),.str (Str.ofString "zz")])) p2 (.lst ((ws'.map (·.nm)).map V.str))) p3 (.lst ([.str (Str.ofString "road"),.str (Str.ofString "zz")]++(ws'.map (·.nm)).map V.str)) p3=some (.lst ((Str.ofString "road" :: Str.ofString "zz" :: ws'.map (·.nm)).map V.str)):=zab
   refine (show tSeq _ _ _ [some (.ref sc),some (.int y),some (.ref x),some (.ref wd),some (.int D'.ct),some (.ref px),some (.bl true),some (.ref p3),v8,v9] (upd (upd (upd H5 p1 (.lst [.str (Str.ofString "road"),.str (Str.ofString "zz")])) p2 (.lst ((ws'.map (·.nm)).map V.str))) p3 (.lst ([.str (Str.ofString "road"),.str (Str.ofString "zz")]++(ws'.map (·.nm)).map V.str))) from ?_)
   generalize upd (upd (upd H5 p1 (.lst [.str (Str.ofString "road"),.str (Str.ofString "zz")])) p2 (.lst ((ws'.map (·.nm)).map V.str))) p3 (.lst ([.str (Str.ofString "road"),.str (Str.ofString "zz")]++(ws'.map (·.nm)).map V.str))=H6 at s3 h3 ⊢
   have J6:=J'.same s3
   have hsl:=s3 _ _ hsl
   have hpx:=s3 _ _ hpx
   have nok:∀ z∈Str.ofString "road" :: Str.ofString "zz" :: ws'.map (·.nm),PyData.strOk z=true:=fun z hz=>by
    rcases List.mem_cons.mp hz with q | hz
    ·rw [q]; decide +kernel
    rcases List.mem_cons.mp hz with q | hz
    ·rw [q]; decide +kernel
    obtain ⟨w1,hw1,rfl⟩:=List.mem_map.mp hz
    obtain ⟨_,n1,hn1,_⟩:=J'.M.inn J'.W (zpw (J'.M.nd J'.W) hw1)
    have:=J'.W.sok n1 (zbm hn1).1
    rw [(zbm hn1).2] at this
    exact this.1
   clear s1 s2 s3 f1 f2 f3 h1 J'
   have ql9:∀ n∈D'.ns,n.ps.length<=900:=fun n hn=>Nat.le_trans (J6.ql n hn).1 (by omega)
   have qw9:∀ w∈ws',w.ps.length<=900:=fun w hw=>Nat.le_trans (J6.qw w hw) (by omega)
   refine zae fun R hR=>?_
   walk_at "rd"
   refine ixNum 7 hpx (by omega) fun y7 _=>zmi (.of h3) ⟨_,rfl,?_⟩
   rw [List.length_map]
   refine ⟨_,rfl,by rw [List.length_cons]; omega,?_⟩
   refine ixW h3 (Int.emod_nonneg _ (by rw [List.length_cons]; omega)) (Int.emod_lt_of_pos _ (by rw [List.length_cons]; omega)) fun z hz=>hR _ _ ?_
   clear hR h3
   have zok:=nok z hz
   refine zae fun R hR=>?_
   walk_at "rd"
   refine ⟨D',z,by rw [J6.p],J6.O,ql9,fun u H7 s7 au fu=>hR _ _ ?_⟩
   clear hR
   have fu:∀ l,u = .ref l->l ∉ D'.foot/\l ∉ lists ws'/\l≠wd/\l≠sl:=fun l e=>by
    have q:=J6.free (fu l e)
    exact ⟨q.1,q.2.1,q.2.2,fun z=>by have q:=fu l e; rw [z,hsl] at q; cases q⟩
   have J7:=J6.same s7
   have hsl:=s7 _ _ hsl
   clear s7 J6
   refine zae fun R hR=>?_
   walk_at "rd"
   refine ⟨wd,D',ws',z,rfl,J7.G.r,J7.W,J7.M,qw9,fun v H8 s8 av=>?_⟩
   have au:=au.same s8
   refine zkz au.deep av.deep (zfa _) ⟨_,rfl,?_⟩
   walk_at "rd"
   refine hR _ _ ?_
   clear hR
   have J8:=J7.same s8
   have hsl:=s8 _ _ hsl
   clear s8 J7 av
   refine zae fun R hR=>?_
   walk_at "rd"
   refine ⟨wd,x,i+1,D',ws',z,rfl,J8,zok,fun H9 s9=>?_⟩
   walk_at "rd"
   refine hR _ _ ?_
   clear hR
   have J9:=J8.same s9
   have hsl:=s9 _ _ hsl
   have au:=au.same s9
   clear s9 J8
   have fin:∀ (v9:V) Ha,LJ (⟨c_Node,c_Starts,c_Rounds,c_Members,c_Node,c_Tree⟩:Cl) wd x (i+1) Ha D' ws'->Ha sl=some (.lst (ms.map V.int))->N [some (.ref sc),some (.int y),some (.ref x),some (.ref wd),some (.int D'.ct),some (.ref px),some (.bl true),some (.ref p3),some (.str z),some v9] Ha:=fun v9 Ha Ja ha=>hN _ _ ⟨_,_,_,_,_,_,D',ws',rfl,Ja,ha,fsl⟩
   refine zlf fun Gp hGp=>?_
   walk_at "rd"
   refine au.isl ⟨_,rfl,ite2 (fun c1=>hGp _ _ ?_) fun _=>fin u H9 J9 hsl⟩
   clear hGp
   cases ea:waitA D' z with
   | cls=>rw [ea] at c1; cases c1
   | plc=>rw [ea] at c1; cases c1
   | len=>rw [ea] at c1; cases c1
   | non=>rw [ea] at c1; cases c1
   | num j=>rw [ea] at c1; cases c1
   | lst qs =>
   rw [ea] at au
   obtain ⟨lu,rfl,hlu⟩:=au
   obtain ⟨u1,u2,u3,u4⟩:=fu lu rfl
   have ql:qs.length<=900:=by
    obtain ⟨n1,hn1,e⟩:=zul ea
    rw [e,List.length_map,<- (J9.O.nd n1 hn1).qu.r.len]
    exact ql9 n1 hn1
   refine zae fun R hR=>?_
   walk_at "rd"
   refine ⟨zgl hlu,zix hlu (by rw [List.length_map]; omega) (hR _ _ ?_)⟩
   clear hR
   have Ja:=J9.other (o:=.lst (qs.map V.int++[.int 0])) ⟨u1,u2,u3⟩ hlu
   have hsla:upd H9 lu (.lst (qs.map V.int++[.int 0])) sl=some (.lst (ms.map V.int)):=by rw [zah u4.symm]; exact hsl
   have hlua:upd H9 lu (.lst (qs.map V.int++[.int 0])) lu=some (.lst (qs.map V.int++[.int 0])):=zab
   refine (show tIfS _ _ _ _ [some (.ref sc),some (.int y),some (.ref x),some (.ref wd),some (.int D'.ct),some (.ref px),some (.bl true),some (.ref p3),some (.str z),some (.ref lu)] (upd H9 lu (.lst (qs.map V.int++[.int 0]))) from ?_)
   generalize upd H9 lu (.lst (qs.map V.int++[.int 0]))=Ha at Ja hsla hlua ⊢
   walk_at "rd"
   refine ⟨D',z,by rw [Ja.p],Ja.O,ql9,fun u Hb sb au _=>?_⟩
   rw [ea] at au
   refine zmj (.of (sb _ _ hlua)) fun pc fc=>?_
   have ec:cutV (qs.map V.int++[.int 0]) none (some (-1))=qs.map V.int:=by
    rw [zuk]
    simp
   rw [ec]
   have sc2:=zai (o:=.lst (qs.map V.int)) fc
   refine zkz (au.same sc2).deep (AnsV.deep (a:=.lst qs) ⟨pc,rfl,zab⟩) (zfa _) ⟨_,rfl,?_⟩
   walk_at "rd"
   exact fin (.ref lu) _ (Ja.same (sb.trans sc2)) (sc2 _ _ (sb _ _ hsla))
  ·rintro σ H3 ⟨v1,v5,v6,v7,v8,v9,D,ws,rfl,J,_,_⟩
   refine hR _ _ ?_
   clear hR
   have il:(ms.map V.int).length<=30:=by rw [List.length_map]; exact ml
   have ql9:∀ n∈D.ns,n.ps.length<=900:=fun n hn=>Nat.le_trans (J.ql n hn).1 (by omega)
   have qw9:∀ w∈ws,w.ps.length<=900:=fun w hw=>Nat.le_trans (J.qw w hw) (by omega)
   refine zae fun R hR=>?_
   refine ⟨_,rfl,wd,_,rfl,J.G.hd,fun o=>?_⟩
   have OF:=J.O.other (o':=.frz o (.dK (weK ws))) J.nw J.G.hd (by intro _ z; cases z)
   have kf:∀ b u,b≠wd->H3 b=some u->upd H3 wd (.frz o (.dK (weK ws))) b=some u:=fun b u q e=>by rw [zah q]; exact e
   have tw:∀ {b ys},H3 b=some (.tup ys)->b≠wd:=fun {b ys} h z=>by rw [z,J.G.hd] at h; cases h
   have GF:WdR (upd H3 wd (.frz o (.dK (weK ws)))) wd ws:=⟨.inr ⟨o,zab⟩,fun w hw=>kf _ _ (tw (J.G.ht w hw)) (J.G.ht w hw),fun w hw l el=>by
    have R0:=J.G.hg w hw l el
    have:l≠wd:=fun z=>by have h:=R0.hl; rw [z,J.G.hd] at h; cases h
    exact ⟨kf _ _ this R0.hl,R0.r.keep fun p y hp=>kf _ _ (tw hp) hp⟩⟩
   have wF:upd H3 wd (.frz o (.dK (weK ws))) wd=some (.frz o (.dK (weK ws))):=zab
   generalize upd H3 wd (.frz o (.dK (weK ws)))=HF at OF GF wF ⊢
   refine ztp (kvs:=weK ws) (fun i σ H'=>(∃ v8,σ = [some (.ref sc),v1,some (.ref x),some (.ref wd),some (.int D.ct),v5,v6,v7,v8,v9])/\Same HF H') ⟨⟨_,rfl⟩,Same.refl _⟩ (fun i σ H' _ h=>h.2 _ _ wF) ?_ ?_
   ·rintro i kv σ H6 hkv ⟨⟨v8,rfl⟩,sm⟩
    obtain ⟨w0,hw,rfl⟩:∃ w0,ws[i]? = some w0/\((Sum.inr w0.nm:Key),V.ref w0.q)=kv:=by
     unfold weK at hkv
     rw [List.getElem?_map] at hkv
     cases e:ws[i]? with
     | none=>rw [e] at hkv; cases hkv
     | some p=>rw [e] at hkv; exact ⟨p,rfl,Option.some.inj hkv⟩
    unfold gName
    show tIfS _ _ _ _ [some (.ref sc),v1,some (.ref x),some (.ref wd),some (.int D.ct),v5,v6,v7,some (.str w0.nm),v9] H6
    refine ziy fun N hN=>?_
    walk_at "rd"
    refine ⟨D,w0.nm,by rw [J.p],OF.same sm,ql9,fun u H7 s7 au _=>?_⟩
    refine ⟨wd,D,ws,w0.nm,rfl,GF.same (sm.trans s7),J.W,J.M,qw9,fun v H8 s8 av=>?_⟩
    have au:=au.same s8
    refine zkz au.deep av.deep (zfa _) ?_
    refine ⟨_,rfl,?_⟩
    walk_at "rd"
    exact hN _ _ ⟨⟨_,rfl⟩,sm.trans (s7.trans s8)⟩
   ·rintro σ H6 ⟨⟨v8,rfl⟩,sm⟩
    refine hR _ _ ?_
    clear hR
    have O6:=(OF.same sm).other (o':=.dK (weK ws)) J.nw (sm _ _ wF) (by intro _ z; cases z)
    generalize upd H6 wd (.dK (weK ws))=H7 at O6 ⊢
    obtain ⟨dx,fs,hp,ft⟩:=O6.ex
    rw [J.p] at hp
    walk_at "rd"
    refine zbc hp (ft.mis _ (by decide +kernel) (by decide +kernel) (by decide +kernel) (by decide +kernel) (by decide +kernel) (by decide +kernel)) ⟨D,by rw [J.p],O6,by rw [J.gs]; simp,fun l8 ps H8 s8 f8 h8 pr8 _=>?_⟩
    rw [J.gs] at pr8
    cases pr8
    intro p9 f9
    have s9:=zai (o:=.lst []) f9
    refine ziw (d:=.list []) (.lst (.of (s9 _ _ h8)) .nil) (.lst (.of zab) .nil) rfl ⟨_,rfl,iteT ?_⟩
    have O9:=O6.same (s8.trans s9)
    obtain ⟨dx,fs,hp,ft⟩:=O9.ex
    rw [J.p] at hp
    walk_at "rd"
    refine zbc hp (ft.mis _ (by decide +kernel) (by decide +kernel) (by decide +kernel) (by decide +kernel) (by decide +kernel) (by decide +kernel)) ?_
    refine ⟨D,by rw [J.p],O9,?_⟩
    rw [J.tm]
    exact ⟨rfl,k _⟩
end
theorem all_mk {l:PySem.W.OpenLaw} {w:World} {K:PySem.W.Frag} {h:Heap} {mg:Str->Option Value} {fa f1 f2 f3 f4 f5 f6 f7 f8 f9 f10 f11 f12 f13 f14 f15 f16 f17 f18 f19 f20 f21 f22 f23:Addr} (X:K.In h) (G:h.Ns mainGlobals mg) (hfa:mg "law" = some (.ref fa))
    {od1 an1 od2 an2 od3 an3 od4 an4 od5 an5 od6 an6 od7 an7 od8 an8 od9 an9 od10 an10 od11 an11 od12 an12 od13 an13 od14 an14 od15 an15 od16 an16 od17 an17 od18 an18 od19 an19 od20 an20 od21 an21 od22 an22 od23 an23:Option Addr} {sl1 sl2 sl3 sl4 sl5 sl6 sl7 sl8 sl9 sl10 sl11 sl12 sl13 sl14 sl15 sl16 sl17 sl18 sl19 sl20 sl21 sl22 sl23:Array (Option Value)} {oc1 kV1 dc1 pm1 cd1 ct1 oc2 kV2 dc2 pm2 cd2 ct2 oc3 kV3 dc3 pm3 cd3 ct3 oc4 kV4 dc4 pm4 cd4 ct4 oc5 kV5 dc5 pm5 cd5 ct5 oc6 kV6 dc6 pm6 cd6 ct6 oc7 kV7 dc7 pm7 cd7 ct7 oc8 kV8 dc8 pm8 cd8 ct8 oc9 kV9 dc9 pm9 cd9 ct9 oc10 kV10 dc10 pm10 cd10 ct10 oc11 kV11 dc11 pm11 cd11 ct11 oc12 kV12 dc12 pm12 cd12 ct12 oc13 kV13 dc13 pm13 cd13 ct13 oc14 kV14 dc14 pm14 cd14 ct14 oc15 kV15 dc15 pm15 cd15 ct15 oc16 kV16 dc16 pm16 cd16 ct16 oc17 kV17 dc17 pm17 cd17 ct17 oc18 kV18 dc18 pm18 cd18 ct18 oc19 kV19 dc19 pm19 cd19 ct19 oc20 kV20 dc20 pm20 cd20 ct20 oc21 kV21 dc21 pm21 cd21 ct21 oc22 kV22 dc22 pm22 cd22 ct22 oc23 kV23 dc23 pm23 cd23 ct23:Value}
    {tk_GREATEST_SHARE tk_GREATEST_LENGTH tk_LETTERS tk_LONGEST_NAME tk_ROAD tk_LONGEST_WAY tk_LEAF:Tok}
    {tu_INNER_KINDS:Addr} {td_INNER_KINDS:Option Addr} {tn_INNER_KINDS:Nat} {tl_INNER_KINDS:Array (Option Value)} {tk0_INNER_KINDS tk1_INNER_KINDS:Tok}
    {c_NoName c_Taken c_NoClass c_NoPlace c_NoShare c_NoLength:Addr}
    {cd_NoName cd_Taken cd_NoClass cd_NoPlace cd_NoShare cd_NoLength:ClassData}
    (b_NoName:PySem.W.nsIn K mainGlobals "NoName" = some (some (.ref c_NoName)))
    (hd_NoName:PySem.W.hasDictIn K c_NoName=true)
    (ga_NoName:PySem.W.findIn K (.ref c_NoName) "__getattribute__" = some (some (.builtin "BaseException.__getattribute__")))
    (gn_NoName:PySem.W.findIn K (.ref c_NoName) "__getattr__" = some none)
    (sa_NoName:PySem.W.findIn K (.ref c_NoName) "__setattr__" = some (some (.builtin "object.__setattr__")))
    (cl_NoName:PySem.W.findIn K (.ref c_NoName) "__class__" = some (some (.builtin "object.__class__")))
    (be_NoName:PySem.W.mroIn K c_NoName (.type "BaseException")=some true)
    (ob_NoName:PySem.W.mroIn K c_NoName (.type "object")=some true)
    (kp_NoName:PySem.W.keepIn K (.ref c_NoName)=true)
    (ci_NoName:PySem.W.clsIn K c_NoName=some cd_NoName)
    (ti_NoName:PySem.W.typeIn K (.ref c_NoName)=some (.type "type"))
    (ex_NoName:PySem.W.excIn K c_NoName bmV "ValueError.__new__" = true)
    (b_Taken:PySem.W.nsIn K mainGlobals "Taken" = some (some (.ref c_Taken)))
    (hd_Taken:PySem.W.hasDictIn K c_Taken=true)
    (ga_Taken:PySem.W.findIn K (.ref c_Taken) "__getattribute__" = some (some (.builtin "BaseException.__getattribute__")))
    (gn_Taken:PySem.W.findIn K (.ref c_Taken) "__getattr__" = some none)
    (sa_Taken:PySem.W.findIn K (.ref c_Taken) "__setattr__" = some (some (.builtin "object.__setattr__")))
    (cl_Taken:PySem.W.findIn K (.ref c_Taken) "__class__" = some (some (.builtin "object.__class__")))
    (be_Taken:PySem.W.mroIn K c_Taken (.type "BaseException")=some true)
    (ob_Taken:PySem.W.mroIn K c_Taken (.type "object")=some true)
    (kp_Taken:PySem.W.keepIn K (.ref c_Taken)=true)
    (ci_Taken:PySem.W.clsIn K c_Taken=some cd_Taken)
    (ti_Taken:PySem.W.typeIn K (.ref c_Taken)=some (.type "type"))
    (ex_Taken:PySem.W.excIn K c_Taken bmV "ValueError.__new__" = true)
    (b_NoClass:PySem.W.nsIn K mainGlobals "NoClass" = some (some (.ref c_NoClass)))
    (hd_NoClass:PySem.W.hasDictIn K c_NoClass=true)
    (ga_NoClass:PySem.W.findIn K (.ref c_NoClass) "__getattribute__" = some (some (.builtin "BaseException.__getattribute__")))
    (gn_NoClass:PySem.W.findIn K (.ref c_NoClass) "__getattr__" = some none)
    (sa_NoClass:PySem.W.findIn K (.ref c_NoClass) "__setattr__" = some (some (.builtin "object.__setattr__")))
    (cl_NoClass:PySem.W.findIn K (.ref c_NoClass) "__class__" = some (some (.builtin "object.__class__")))
    (be_NoClass:PySem.W.mroIn K c_NoClass (.type "BaseException")=some true)
    (ob_NoClass:PySem.W.mroIn K c_NoClass (.type "object")=some true)
    (kp_NoClass:PySem.W.keepIn K (.ref c_NoClass)=true)
    (ci_NoClass:PySem.W.clsIn K c_NoClass=some cd_NoClass)
    (ti_NoClass:PySem.W.typeIn K (.ref c_NoClass)=some (.type "type"))
    (ex_NoClass:PySem.W.excIn K c_NoClass bmV "ValueError.__new__" = true)
    (b_NoPlace:PySem.W.nsIn K mainGlobals "NoPlace" = some (some (.ref c_NoPlace)))
    (hd_NoPlace:PySem.W.hasDictIn K c_NoPlace=true)
    (ga_NoPlace:PySem.W.findIn K (.ref c_NoPlace) "__getattribute__" = some (some (.builtin "BaseException.__getattribute__")))
    (gn_NoPlace:PySem.W.findIn K (.ref c_NoPlace) "__getattr__" = some none)
    (sa_NoPlace:PySem.W.findIn K (.ref c_NoPlace) "__setattr__" = some (some (.builtin "object.__setattr__")))
    (cl_NoPlace:PySem.W.findIn K (.ref c_NoPlace) "__class__" = some (some (.builtin "object.__class__")))
    (be_NoPlace:PySem.W.mroIn K c_NoPlace (.type "BaseException")=some true)
    (ob_NoPlace:PySem.W.mroIn K c_NoPlace (.type "object")=some true)
    (kp_NoPlace:PySem.W.keepIn K (.ref c_NoPlace)=true)
    (ci_NoPlace:PySem.W.clsIn K c_NoPlace=some cd_NoPlace)
    (ti_NoPlace:PySem.W.typeIn K (.ref c_NoPlace)=some (.type "type"))
    (ex_NoPlace:PySem.W.excIn K c_NoPlace bmV "ValueError.__new__" = true)
    (b_NoShare:PySem.W.nsIn K mainGlobals "NoShare" = some (some (.ref c_NoShare)))
    (hd_NoShare:PySem.W.hasDictIn K c_NoShare=true)
    (ga_NoShare:PySem.W.findIn K (.ref c_NoShare) "__getattribute__" = some (some (.builtin "BaseException.__getattribute__")))
    (gn_NoShare:PySem.W.findIn K (.ref c_NoShare) "__getattr__" = some none)
    (sa_NoShare:PySem.W.findIn K (.ref c_NoShare) "__setattr__" = some (some (.builtin "object.__setattr__")))
    (cl_NoShare:PySem.W.findIn K (.ref c_NoShare) "__class__" = some (some (.builtin "object.__class__")))
    (be_NoShare:PySem.W.mroIn K c_NoShare (.type "BaseException")=some true)
    (ob_NoShare:PySem.W.mroIn K c_NoShare (.type "object")=some true)
    (kp_NoShare:PySem.W.keepIn K (.ref c_NoShare)=true)
    (ci_NoShare:PySem.W.clsIn K c_NoShare=some cd_NoShare)
    (ti_NoShare:PySem.W.typeIn K (.ref c_NoShare)=some (.type "type"))
    (ex_NoShare:PySem.W.excIn K c_NoShare bmV "ValueError.__new__" = true)
    (b_NoLength:PySem.W.nsIn K mainGlobals "NoLength" = some (some (.ref c_NoLength)))
    (hd_NoLength:PySem.W.hasDictIn K c_NoLength=true)
    (ga_NoLength:PySem.W.findIn K (.ref c_NoLength) "__getattribute__" = some (some (.builtin "BaseException.__getattribute__")))
    (gn_NoLength:PySem.W.findIn K (.ref c_NoLength) "__getattr__" = some none)
    (sa_NoLength:PySem.W.findIn K (.ref c_NoLength) "__setattr__" = some (some (.builtin "object.__setattr__")))
    (cl_NoLength:PySem.W.findIn K (.ref c_NoLength) "__class__" = some (some (.builtin "object.__class__")))
    (be_NoLength:PySem.W.mroIn K c_NoLength (.type "BaseException")=some true)
    (ob_NoLength:PySem.W.mroIn K c_NoLength (.type "object")=some true)
    (kp_NoLength:PySem.W.keepIn K (.ref c_NoLength)=true)
    (ci_NoLength:PySem.W.clsIn K c_NoLength=some cd_NoLength)
    (ti_NoLength:PySem.W.typeIn K (.ref c_NoLength)=some (.type "type"))
    (ex_NoLength:PySem.W.excIn K c_NoLength bmV "ValueError.__new__" = true)
    (kg:PySem.W.specialIn K (.builtin "object.__class__") "__get__" = some (some (.builtin "getset_descriptor.__get__")))
    (kt:PySem.W.takesIn K (.builtin "object.__class__")=some true)
    (s_NoName_NoName:PySem.W.subIn K (.ref c_NoName) (.ref c_NoName)=some true)
    (s_NoName_Taken:PySem.W.subIn K (.ref c_NoName) (.ref c_Taken)=some false)
    (n_NoName_Taken:(Value.ref c_NoName == Value.ref c_Taken)=false)
    (s_NoName_NoClass:PySem.W.subIn K (.ref c_NoName) (.ref c_NoClass)=some false)
    (n_NoName_NoClass:(Value.ref c_NoName == Value.ref c_NoClass)=false)
    (s_NoName_NoPlace:PySem.W.subIn K (.ref c_NoName) (.ref c_NoPlace)=some false)
    (n_NoName_NoPlace:(Value.ref c_NoName == Value.ref c_NoPlace)=false)
    (s_NoName_NoShare:PySem.W.subIn K (.ref c_NoName) (.ref c_NoShare)=some false)
    (n_NoName_NoShare:(Value.ref c_NoName == Value.ref c_NoShare)=false)
    (s_NoName_NoLength:PySem.W.subIn K (.ref c_NoName) (.ref c_NoLength)=some false)
    (n_NoName_NoLength:(Value.ref c_NoName == Value.ref c_NoLength)=false)
    (v_NoName_VE:PySem.W.subIn K (.ref c_NoName) (.type "ValueError")=some true)
    (s_Taken_NoName:PySem.W.subIn K (.ref c_Taken) (.ref c_NoName)=some false)
    (n_Taken_NoName:(Value.ref c_Taken == Value.ref c_NoName)=false)
    (s_Taken_Taken:PySem.W.subIn K (.ref c_Taken) (.ref c_Taken)=some true)
    (s_Taken_NoClass:PySem.W.subIn K (.ref c_Taken) (.ref c_NoClass)=some false)
    (n_Taken_NoClass:(Value.ref c_Taken == Value.ref c_NoClass)=false)
    (s_Taken_NoPlace:PySem.W.subIn K (.ref c_Taken) (.ref c_NoPlace)=some false)
    (n_Taken_NoPlace:(Value.ref c_Taken == Value.ref c_NoPlace)=false)
    (s_Taken_NoShare:PySem.W.subIn K (.ref c_Taken) (.ref c_NoShare)=some false)
    (n_Taken_NoShare:(Value.ref c_Taken == Value.ref c_NoShare)=false)
    (s_Taken_NoLength:PySem.W.subIn K (.ref c_Taken) (.ref c_NoLength)=some false)
    (n_Taken_NoLength:(Value.ref c_Taken == Value.ref c_NoLength)=false)
    (v_Taken_VE:PySem.W.subIn K (.ref c_Taken) (.type "ValueError")=some true)
    (s_NoClass_NoName:PySem.W.subIn K (.ref c_NoClass) (.ref c_NoName)=some false)
    (n_NoClass_NoName:(Value.ref c_NoClass == Value.ref c_NoName)=false)
    (s_NoClass_Taken:PySem.W.subIn K (.ref c_NoClass) (.ref c_Taken)=some false)
    (n_NoClass_Taken:(Value.ref c_NoClass == Value.ref c_Taken)=false)
    (s_NoClass_NoClass:PySem.W.subIn K (.ref c_NoClass) (.ref c_NoClass)=some true)
    (s_NoClass_NoPlace:PySem.W.subIn K (.ref c_NoClass) (.ref c_NoPlace)=some false)
    (n_NoClass_NoPlace:(Value.ref c_NoClass == Value.ref c_NoPlace)=false)
    (s_NoClass_NoShare:PySem.W.subIn K (.ref c_NoClass) (.ref c_NoShare)=some false)
    (n_NoClass_NoShare:(Value.ref c_NoClass == Value.ref c_NoShare)=false)
    (s_NoClass_NoLength:PySem.W.subIn K (.ref c_NoClass) (.ref c_NoLength)=some false)
    (n_NoClass_NoLength:(Value.ref c_NoClass == Value.ref c_NoLength)=false)
    (v_NoClass_VE:PySem.W.subIn K (.ref c_NoClass) (.type "ValueError")=some true)
    (s_NoPlace_NoName:PySem.W.subIn K (.ref c_NoPlace) (.ref c_NoName)=some false)
    (n_NoPlace_NoName:(Value.ref c_NoPlace == Value.ref c_NoName)=false)
    (s_NoPlace_Taken:PySem.W.subIn K (.ref c_NoPlace) (.ref c_Taken)=some false)
    (n_NoPlace_Taken:(Value.ref c_NoPlace == Value.ref c_Taken)=false)
    (s_NoPlace_NoClass:PySem.W.subIn K (.ref c_NoPlace) (.ref c_NoClass)=some false)
    (n_NoPlace_NoClass:(Value.ref c_NoPlace == Value.ref c_NoClass)=false)
    (s_NoPlace_NoPlace:PySem.W.subIn K (.ref c_NoPlace) (.ref c_NoPlace)=some true)
    (s_NoPlace_NoShare:PySem.W.subIn K (.ref c_NoPlace) (.ref c_NoShare)=some false)
    (n_NoPlace_NoShare:(Value.ref c_NoPlace == Value.ref c_NoShare)=false)
    (s_NoPlace_NoLength:PySem.W.subIn K (.ref c_NoPlace) (.ref c_NoLength)=some false)
    (n_NoPlace_NoLength:(Value.ref c_NoPlace == Value.ref c_NoLength)=false)
    (v_NoPlace_VE:PySem.W.subIn K (.ref c_NoPlace) (.type "ValueError")=some true)
    (s_NoShare_NoName:PySem.W.subIn K (.ref c_NoShare) (.ref c_NoName)=some false)
    (n_NoShare_NoName:(Value.ref c_NoShare == Value.ref c_NoName)=false)
    (s_NoShare_Taken:PySem.W.subIn K (.ref c_NoShare) (.ref c_Taken)=some false)
    (n_NoShare_Taken:(Value.ref c_NoShare == Value.ref c_Taken)=false)
    (s_NoShare_NoClass:PySem.W.subIn K (.ref c_NoShare) (.ref c_NoClass)=some false)
    (n_NoShare_NoClass:(Value.ref c_NoShare == Value.ref c_NoClass)=false)
    (s_NoShare_NoPlace:PySem.W.subIn K (.ref c_NoShare) (.ref c_NoPlace)=some false)
    (n_NoShare_NoPlace:(Value.ref c_NoShare == Value.ref c_NoPlace)=false)
    (s_NoShare_NoShare:PySem.W.subIn K (.ref c_NoShare) (.ref c_NoShare)=some true)
    (s_NoShare_NoLength:PySem.W.subIn K (.ref c_NoShare) (.ref c_NoLength)=some false)
    (n_NoShare_NoLength:(Value.ref c_NoShare == Value.ref c_NoLength)=false)
    (v_NoShare_VE:PySem.W.subIn K (.ref c_NoShare) (.type "ValueError")=some true)
    (s_NoLength_NoName:PySem.W.subIn K (.ref c_NoLength) (.ref c_NoName)=some false)
    (n_NoLength_NoName:(Value.ref c_NoLength == Value.ref c_NoName)=false)
    (s_NoLength_Taken:PySem.W.subIn K (.ref c_NoLength) (.ref c_Taken)=some false)
    (n_NoLength_Taken:(Value.ref c_NoLength == Value.ref c_Taken)=false)
    (s_NoLength_NoClass:PySem.W.subIn K (.ref c_NoLength) (.ref c_NoClass)=some false)
    (n_NoLength_NoClass:(Value.ref c_NoLength == Value.ref c_NoClass)=false)
    (s_NoLength_NoPlace:PySem.W.subIn K (.ref c_NoLength) (.ref c_NoPlace)=some false)
    (n_NoLength_NoPlace:(Value.ref c_NoLength == Value.ref c_NoPlace)=false)
    (s_NoLength_NoShare:PySem.W.subIn K (.ref c_NoLength) (.ref c_NoShare)=some false)
    (n_NoLength_NoShare:(Value.ref c_NoLength == Value.ref c_NoShare)=false)
    (s_NoLength_NoLength:PySem.W.subIn K (.ref c_NoLength) (.ref c_NoLength)=some true)
    (v_NoLength_VE:PySem.W.subIn K (.ref c_NoLength) (.type "ValueError")=some true)
    (a1:PySem.W.nsIn K mainGlobals "divisor" = some (some (.ref f1))) (l1:K.lookup f1=some ⟨oc1,od1,.func (PySem.W.fnOf "divisor" "divisor" (zam zfg) (zal zfg) (zac zfg) .none kV1 dc1 pm1 an1 cd1 ct1),sl1⟩) (c1:PySem.W.codeIn K cd1 "divisor" = true) (k1:PySem.W.keepIn K (.ref f1)=true)
    (a2:PySem.W.nsIn K mainGlobals "ratio" = some (some (.ref f2))) (l2:K.lookup f2=some ⟨oc2,od2,.func (PySem.W.fnOf "ratio" "ratio" (zam zhx) (zal zhx) (zac zhx) .none kV2 dc2 pm2 an2 cd2 ct2),sl2⟩) (c2:PySem.W.codeIn K cd2 "ratio" = true) (k2:PySem.W.keepIn K (.ref f2)=true)
    (a3:PySem.W.nsIn K mainGlobals "under" = some (some (.ref f3))) (l3:K.lookup f3=some ⟨oc3,od3,.func (PySem.W.fnOf "under" "under" (zam zje) (zal zje) (zac zje) .none kV3 dc3 pm3 an3 cd3 ct3),sl3⟩) (c3:PySem.W.codeIn K cd3 "under" = true) (k3:PySem.W.keepIn K (.ref f3)=true)
    (a4:PySem.W.nsIn K mainGlobals "greater" = some (some (.ref f4))) (l4:K.lookup f4=some ⟨oc4,od4,.func (PySem.W.fnOf "greater" "greater" (zam zfr) (zal zfr) (zac zfr) .none kV4 dc4 pm4 an4 cd4 ct4),sl4⟩) (c4:PySem.W.codeIn K cd4 "greater" = true) (k4:PySem.W.keepIn K (.ref f4)=true)
    (a5:PySem.W.nsIn K mainGlobals "check_share" = some (some (.ref f5))) (l5:K.lookup f5=some ⟨oc5,od5,.func (PySem.W.fnOf "check_share" "check_share" (zam zdm) (zal zdm) (zac zdm) .none kV5 dc5 pm5 an5 cd5 ct5),sl5⟩) (c5:PySem.W.codeIn K cd5 "check_share" = true) (k5:PySem.W.keepIn K (.ref f5)=true)
    (a6:PySem.W.nsIn K mainGlobals "check_most" = some (some (.ref f6))) (l6:K.lookup f6=some ⟨oc6,od6,.func (PySem.W.fnOf "check_most" "check_most" (zam zdx) (zal zdx) (zac zdx) .none kV6 dc6 pm6 an6 cd6 ct6),sl6⟩) (c6:PySem.W.codeIn K cd6 "check_most" = true) (k6:PySem.W.keepIn K (.ref f6)=true)
    (a7:PySem.W.nsIn K mainGlobals "is_name" = some (some (.ref f7))) (l7:K.lookup f7=some ⟨oc7,od7,.func (PySem.W.fnOf "is_name" "is_name" (zam zfh) (zal zfh) (zac zfh) .none kV7 dc7 pm7 an7 cd7 ct7),sl7⟩) (c7:PySem.W.codeIn K cd7 "is_name" = true) (k7:PySem.W.keepIn K (.ref f7)=true)
    (a8:PySem.W.nsIn K mainGlobals "chooser_of" = some (some (.ref f8))) (l8:K.lookup f8=some ⟨oc8,od8,.func (PySem.W.fnOf "chooser_of" "chooser_of" (zam zdy) (zal zdy) (zac zdy) .none kV8 dc8 pm8 an8 cd8 ct8),sl8⟩) (c8:PySem.W.codeIn K cd8 "chooser_of" = true) (k8:PySem.W.keepIn K (.ref f8)=true)
    (a9:PySem.W.nsIn K mainGlobals "_law_cell_at" = some (some (.ref f9))) (l9:K.lookup f9=some ⟨oc9,od9,.func (PySem.W.fnOf "_law_cell_at" "_law_cell_at" (zam zda) (zal zda) (zac zda) .none kV9 dc9 pm9 an9 cd9 ct9),sl9⟩) (c9:PySem.W.codeIn K cd9 "_law_cell_at" = true) (k9:PySem.W.keepIn K (.ref f9)=true)
    (a10:PySem.W.nsIn K mainGlobals "_law_stream" = some (some (.ref f10))) (l10:K.lookup f10=some ⟨oc10,od10,.func (PySem.W.fnOf "_law_stream" "_law_stream" (zam zdn) (zal zdn) (zac zdn) .none kV10 dc10 pm10 an10 cd10 ct10),sl10⟩) (c10:PySem.W.codeIn K cd10 "_law_stream" = true) (k10:PySem.W.keepIn K (.ref f10)=true)
    (a11:PySem.W.nsIn K mainGlobals "_law_whole" = some (some (.ref f11))) (l11:K.lookup f11=some ⟨oc11,od11,.func (PySem.W.fnOf "_law_whole" "_law_whole" (zam zdz) (zal zdz) (zac zdz) .none kV11 dc11 pm11 an11 cd11 ct11),sl11⟩) (c11:PySem.W.codeIn K cd11 "_law_whole" = true) (k11:PySem.W.keepIn K (.ref f11)=true)
    (a12:PySem.W.nsIn K mainGlobals "_law_name" = some (some (.ref f12))) (l12:K.lookup f12=some ⟨oc12,od12,.func (PySem.W.fnOf "_law_name" "_law_name" (zam zeh) (zal zeh) (zac zeh) .none kV12 dc12 pm12 an12 cd12 ct12),sl12⟩) (c12:PySem.W.codeIn K cd12 "_law_name" = true) (k12:PySem.W.keepIn K (.ref f12)=true)
    (a13:PySem.W.nsIn K mainGlobals "_law_come" = some (some (.ref f13))) (l13:K.lookup f13=some ⟨oc13,od13,.func (PySem.W.fnOf "_law_come" "_law_come" (zam zei) (zal zei) (zac zei) .none kV13 dc13 pm13 an13 cd13 ct13),sl13⟩) (c13:PySem.W.codeIn K cd13 "_law_come" = true) (k13:PySem.W.keepIn K (.ref f13)=true)
    (a14:PySem.W.nsIn K mainGlobals "_law_take" = some (some (.ref f14))) (l14:K.lookup f14=some ⟨oc14,od14,.func (PySem.W.fnOf "_law_take" "_law_take" (zam zej) (zal zej) (zac zej) .none kV14 dc14 pm14 an14 cd14 ct14),sl14⟩) (c14:PySem.W.codeIn K cd14 "_law_take" = true) (k14:PySem.W.keepIn K (.ref f14)=true)
    (a15:PySem.W.nsIn K mainGlobals "_law_waiting" = some (some (.ref f15))) (l15:K.lookup f15=some ⟨oc15,od15,.func (PySem.W.fnOf "_law_waiting" "_law_waiting" (zam zdb) (zal zdb) (zac zdb) .none kV15 dc15 pm15 an15 cd15 ct15),sl15⟩) (c15:PySem.W.codeIn K cd15 "_law_waiting" = true) (k15:PySem.W.keepIn K (.ref f15)=true)
    (a16:PySem.W.nsIn K mainGlobals "_law_due_waiting" = some (some (.ref f16))) (l16:K.lookup f16=some ⟨oc16,od16,.func (PySem.W.fnOf "_law_due_waiting" "_law_due_waiting" (zam zbr) (zal zbr) (zac zbr) .none kV16 dc16 pm16 an16 cd16 ct16),sl16⟩) (c16:PySem.W.codeIn K cd16 "_law_due_waiting" = true) (k16:PySem.W.keepIn K (.ref f16)=true)
    (a17:PySem.W.nsIn K mainGlobals "_law_due_come" = some (some (.ref f17))) (l17:K.lookup f17=some ⟨oc17,od17,.func (PySem.W.fnOf "_law_due_come" "_law_due_come" (zam zco) (zal zco) (zac zco) .none kV17 dc17 pm17 an17 cd17 ct17),sl17⟩) (c17:PySem.W.codeIn K cd17 "_law_due_come" = true) (k17:PySem.W.keepIn K (.ref f17)=true)
    (a18:PySem.W.nsIn K mainGlobals "_law_due_take" = some (some (.ref f18))) (l18:K.lookup f18=some ⟨oc18,od18,.func (PySem.W.fnOf "_law_due_take" "_law_due_take" (zam zcp) (zal zcp) (zac zcp) .none kV18 dc18 pm18 an18 cd18 ct18),sl18⟩) (c18:PySem.W.codeIn K cd18 "_law_due_take" = true) (k18:PySem.W.keepIn K (.ref f18)=true)
    (a19:PySem.W.nsIn K mainGlobals "_law_put" = some (some (.ref f19))) (l19:K.lookup f19=some ⟨oc19,od19,.func (PySem.W.fnOf "_law_put" "_law_put" (zam zev) (zal zev) (zac zev) .none kV19 dc19 pm19 an19 cd19 ct19),sl19⟩) (c19:PySem.W.codeIn K cd19 "_law_put" = true) (k19:PySem.W.keepIn K (.ref f19)=true)
    (a20:PySem.W.nsIn K mainGlobals "_law_length" = some (some (.ref f20))) (l20:K.lookup f20=some ⟨oc20,od20,.func (PySem.W.fnOf "_law_length" "_law_length" (zam zdo) (zal zdo) (zac zdo) .none kV20 dc20 pm20 an20 cd20 ct20),sl20⟩) (c20:PySem.W.codeIn K cd20 "_law_length" = true) (k20:PySem.W.keepIn K (.ref f20)=true)
    (a21:PySem.W.nsIn K mainGlobals "_law_deed" = some (some (.ref f21))) (l21:K.lookup f21=some ⟨oc21,od21,.func (PySem.W.fnOf "_law_deed" "_law_deed" (zam zek) (zal zek) (zac zek) .none kV21 dc21 pm21 an21 cd21 ct21),sl21⟩) (c21:PySem.W.codeIn K cd21 "_law_deed" = true) (k21:PySem.W.keepIn K (.ref f21)=true)
    (a22:PySem.W.nsIn K mainGlobals "_law_stands" = some (some (.ref f22))) (l22:K.lookup f22=some ⟨oc22,od22,.func (PySem.W.fnOf "_law_stands" "_law_stands" (zam zdp) (zal zdp) (zac zdp) .none kV22 dc22 pm22 an22 cd22 ct22),sl22⟩) (c22:PySem.W.codeIn K cd22 "_law_stands" = true) (k22:PySem.W.keepIn K (.ref f22)=true)
    (a23:PySem.W.nsIn K mainGlobals "law" = some (some (.ref f23))) (l23:K.lookup f23=some ⟨oc23,od23,.func (PySem.W.fnOf "law" "law" (zam s_law) (zal s_law) (zac s_law) .none kV23 dc23 pm23 an23 cd23 ct23),sl23⟩) (c23:PySem.W.codeIn K cd23 "law" = true) (k23:PySem.W.keepIn K (.ref f23)=true)
    (z1:PySem.W.nsIn K mainGlobals "abs" = some none)
    (z2:PySem.W.nsIn K mainGlobals "all" = some none)
    (z3:PySem.W.nsIn K mainGlobals "len" = some none)
    (z4:PySem.W.nsIn K mainGlobals "range" = some none)
    (z5:PySem.W.nsIn K mainGlobals "isinstance" = some none)
    (z6:PySem.W.nsIn K mainGlobals "bool" = some none)
    (z7:PySem.W.nsIn K mainGlobals "int" = some none)
    (z8:PySem.W.nsIn K mainGlobals "sum" = some none)
    (z9:PySem.W.nsIn K mainGlobals "min" = some none)
    (z10:PySem.W.nsIn K mainGlobals "list" = some none)
    (v_GREATEST_SHARE:PySem.W.nsIn K mainGlobals "GREATEST_SHARE" = some (some (.int 1000000 tk_GREATEST_SHARE)))
    (v_GREATEST_LENGTH:PySem.W.nsIn K mainGlobals "GREATEST_LENGTH" = some (some (.int 1000000 tk_GREATEST_LENGTH)))
    (v_LETTERS:PySem.W.nsIn K mainGlobals "LETTERS" = some (some (.str (Str.ofString "abcdefghijklmnopqrstuvwxyz") tk_LETTERS)))
    (v_LONGEST_NAME:PySem.W.nsIn K mainGlobals "LONGEST_NAME" = some (some (.int 8 tk_LONGEST_NAME)))
    (v_ROAD:PySem.W.nsIn K mainGlobals "ROAD" = some (some (.str (Str.ofString "road") tk_ROAD)))
    (v_INNER_KINDS:PySem.W.nsIn K mainGlobals "INNER_KINDS" = some (some (.ref tu_INNER_KINDS)))
    (w_INNER_KINDS:K.lookup tu_INNER_KINDS=some ⟨.type "tuple", td_INNER_KINDS,.seq #[.str (Str.ofString "starts") tk0_INNER_KINDS,.str (Str.ofString "rounds") tk1_INNER_KINDS] tn_INNER_KINDS,tl_INNER_KINDS⟩)
    (v_LONGEST_WAY:PySem.W.nsIn K mainGlobals "LONGEST_WAY" = some (some (.int 5 tk_LONGEST_WAY)))
    (v_LEAF:PySem.W.nsIn K mainGlobals "LEAF" = some (some (.str (Str.ofString "leaf") tk_LEAF)))
    {c_Members:Addr}
    (b_Members:PySem.W.nsIn K mainGlobals "Members" = some (some (.ref c_Members)))
    (pg_Members:PySem.W.plainGet K c_Members Str.empty=true)
    (hd_Members:PySem.W.hasDictIn K c_Members=true)
    (po_Members:PySem.W.plainOver K c_Members=true)
    (sa_Members:PySem.W.findIn K (.ref c_Members) "__setattr__" = some (some (.builtin "object.__setattr__")))
    (mk_Members:PySem.W.makesIn K c_Members=true)
    (kc_Members:PySem.W.keepIn K (.ref c_Members)=true)
    (na_Members_shares:PySem.W.findIn K (.ref c_Members) "shares" = some none)
    {i_Members_init:Addr} {od_Members_init an_Members_init:Option Addr} {sl_Members_init:Array (Option Value)} {oc_Members_init kV_Members_init dc_Members_init pm_Members_init co_Members_init ct_Members_init:Value}
    (a_Members_init:PySem.W.findIn K (.ref c_Members) "__init__" = some (some (.ref i_Members_init)))
    (i_Members_init_fn:PySem.W.isFn K (.ref i_Members_init)=true)
    (l_Members_init:K.lookup i_Members_init=some ⟨oc_Members_init,od_Members_init,.func (PySem.W.fnOf "__init__" "Members.__init__" (zam zce) (zal zce) (zac zce) .none kV_Members_init dc_Members_init pm_Members_init an_Members_init co_Members_init ct_Members_init),sl_Members_init⟩)
    (c_Members_init_cd:PySem.W.codeIn K co_Members_init "Members.__init__" = true)
    (k_Members_init:PySem.W.keepIn K (.ref i_Members_init)=true)
    {i_Members_check_name:Addr} {od_Members_check_name an_Members_check_name:Option Addr} {sl_Members_check_name:Array (Option Value)} {oc_Members_check_name kV_Members_check_name dc_Members_check_name pm_Members_check_name co_Members_check_name ct_Members_check_name:Value}
    (a_Members_check_name:PySem.W.findIn K (.ref c_Members) "check_name" = some (some (.ref i_Members_check_name)))
    (i_Members_check_name_fn:PySem.W.isFn K (.ref i_Members_check_name)=true)
    (l_Members_check_name:K.lookup i_Members_check_name=some ⟨oc_Members_check_name,od_Members_check_name,.func (PySem.W.fnOf "check_name" "Members.check_name" (zam zbf) (zal zbf) (zac zbf) .none kV_Members_check_name dc_Members_check_name pm_Members_check_name an_Members_check_name co_Members_check_name ct_Members_check_name),sl_Members_check_name⟩)
    (c_Members_check_name_cd:PySem.W.codeIn K co_Members_check_name "Members.check_name" = true)
    (k_Members_check_name:PySem.W.keepIn K (.ref i_Members_check_name)=true)
    {i_Members_put:Addr} {od_Members_put an_Members_put:Option Addr} {sl_Members_put:Array (Option Value)} {oc_Members_put kV_Members_put dc_Members_put pm_Members_put co_Members_put ct_Members_put:Value}
    (a_Members_put:PySem.W.findIn K (.ref c_Members) "put" = some (some (.ref i_Members_put)))
    (i_Members_put_fn:PySem.W.isFn K (.ref i_Members_put)=true)
    (l_Members_put:K.lookup i_Members_put=some ⟨oc_Members_put,od_Members_put,.func (PySem.W.fnOf "put" "Members.put" (zam zcu) (zal zcu) (zac zcu) .none kV_Members_put dc_Members_put pm_Members_put an_Members_put co_Members_put ct_Members_put),sl_Members_put⟩)
    (c_Members_put_cd:PySem.W.codeIn K co_Members_put "Members.put" = true)
    (k_Members_put:PySem.W.keepIn K (.ref i_Members_put)=true)
    {i_Members_take:Addr} {od_Members_take an_Members_take:Option Addr} {sl_Members_take:Array (Option Value)} {oc_Members_take kV_Members_take dc_Members_take pm_Members_take co_Members_take ct_Members_take:Value}
    (a_Members_take:PySem.W.findIn K (.ref c_Members) "take" = some (some (.ref i_Members_take)))
    (i_Members_take_fn:PySem.W.isFn K (.ref i_Members_take)=true)
    (l_Members_take:K.lookup i_Members_take=some ⟨oc_Members_take,od_Members_take,.func (PySem.W.fnOf "take" "Members.take" (zam zcf) (zal zcf) (zac zcf) .none kV_Members_take dc_Members_take pm_Members_take an_Members_take co_Members_take ct_Members_take),sl_Members_take⟩)
    (c_Members_take_cd:PySem.W.codeIn K co_Members_take "Members.take" = true)
    (k_Members_take:PySem.W.keepIn K (.ref i_Members_take)=true)
    {i_Members_names:Addr} {od_Members_names an_Members_names:Option Addr} {sl_Members_names:Array (Option Value)} {oc_Members_names kV_Members_names dc_Members_names pm_Members_names co_Members_names ct_Members_names:Value}
    (a_Members_names:PySem.W.findIn K (.ref c_Members) "names" = some (some (.ref i_Members_names)))
    (i_Members_names_fn:PySem.W.isFn K (.ref i_Members_names)=true)
    (l_Members_names:K.lookup i_Members_names=some ⟨oc_Members_names,od_Members_names,.func (PySem.W.fnOf "names" "Members.names" (zam zcb) (zal zcb) (zac zcb) .none kV_Members_names dc_Members_names pm_Members_names an_Members_names co_Members_names ct_Members_names),sl_Members_names⟩)
    (c_Members_names_cd:PySem.W.codeIn K co_Members_names "Members.names" = true)
    (k_Members_names:PySem.W.keepIn K (.ref i_Members_names)=true)
    {c_Chooser:Addr}
    (b_Chooser:PySem.W.nsIn K mainGlobals "Chooser" = some (some (.ref c_Chooser)))
    {c_Starts:Addr}
    (b_Starts:PySem.W.nsIn K mainGlobals "Starts" = some (some (.ref c_Starts)))
    (pg_Starts:PySem.W.plainGet K c_Starts Str.empty=true)
    (hd_Starts:PySem.W.hasDictIn K c_Starts=true)
    (po_Starts:PySem.W.plainOver K c_Starts=true)
    (sa_Starts:PySem.W.findIn K (.ref c_Starts) "__setattr__" = some (some (.builtin "object.__setattr__")))
    (mk_Starts:PySem.W.makesIn K c_Starts=true)
    (kc_Starts:PySem.W.keepIn K (.ref c_Starts)=true)
    (na_Starts_reached:PySem.W.findIn K (.ref c_Starts) "reached" = some none)
    (na_Starts_tags:PySem.W.findIn K (.ref c_Starts) "tags" = some none)
    (na_Starts_greatest_steps:PySem.W.findIn K (.ref c_Starts) "greatest_steps" = some none)
    (na_Starts_most:PySem.W.findIn K (.ref c_Starts) "most" = some none)
    (na_Starts_members:PySem.W.findIn K (.ref c_Starts) "members" = some none)
    (na_Starts_chosen:PySem.W.findIn K (.ref c_Starts) "chosen" = some none)
    {i_Starts_init:Addr} {od_Starts_init an_Starts_init:Option Addr} {sl_Starts_init:Array (Option Value)} {oc_Starts_init kV_Starts_init dc_Starts_init pm_Starts_init co_Starts_init ct_Starts_init:Value}
    (a_Starts_init:PySem.W.findIn K (.ref c_Starts) "__init__" = some (some (.ref i_Starts_init)))
    (i_Starts_init_fn:PySem.W.isFn K (.ref i_Starts_init)=true)
    (l_Starts_init:K.lookup i_Starts_init=some ⟨oc_Starts_init,od_Starts_init,.func (PySem.W.fnOf "__init__" "Starts.__init__" (zam zcv) (zal zcv) (zac zcv) .none kV_Starts_init dc_Starts_init pm_Starts_init an_Starts_init co_Starts_init ct_Starts_init),sl_Starts_init⟩)
    (c_Starts_init_cd:PySem.W.codeIn K co_Starts_init "Starts.__init__" = true)
    (k_Starts_init:PySem.W.keepIn K (.ref i_Starts_init)=true)
    {i_Starts_enter:Addr} {od_Starts_enter an_Starts_enter:Option Addr} {sl_Starts_enter:Array (Option Value)} {oc_Starts_enter kV_Starts_enter dc_Starts_enter pm_Starts_enter co_Starts_enter ct_Starts_enter:Value}
    (a_Starts_enter:PySem.W.findIn K (.ref c_Starts) "enter" = some (some (.ref i_Starts_enter)))
    (i_Starts_enter_fn:PySem.W.isFn K (.ref i_Starts_enter)=true)
    (l_Starts_enter:K.lookup i_Starts_enter=some ⟨oc_Starts_enter,od_Starts_enter,.func (PySem.W.fnOf "enter" "Starts.enter" (zam zcg) (zal zcg) (zac zcg) .none kV_Starts_enter dc_Starts_enter pm_Starts_enter an_Starts_enter co_Starts_enter ct_Starts_enter),sl_Starts_enter⟩)
    (c_Starts_enter_cd:PySem.W.codeIn K co_Starts_enter "Starts.enter" = true)
    (k_Starts_enter:PySem.W.keepIn K (.ref i_Starts_enter)=true)
    {i_Starts_leave:Addr} {od_Starts_leave an_Starts_leave:Option Addr} {sl_Starts_leave:Array (Option Value)} {oc_Starts_leave kV_Starts_leave dc_Starts_leave pm_Starts_leave co_Starts_leave ct_Starts_leave:Value}
    (a_Starts_leave:PySem.W.findIn K (.ref c_Starts) "leave" = some (some (.ref i_Starts_leave)))
    (i_Starts_leave_fn:PySem.W.isFn K (.ref i_Starts_leave)=true)
    (l_Starts_leave:K.lookup i_Starts_leave=some ⟨oc_Starts_leave,od_Starts_leave,.func (PySem.W.fnOf "leave" "Starts.leave" (zam zch) (zal zch) (zac zch) .none kV_Starts_leave dc_Starts_leave pm_Starts_leave an_Starts_leave co_Starts_leave ct_Starts_leave),sl_Starts_leave⟩)
    (c_Starts_leave_cd:PySem.W.codeIn K co_Starts_leave "Starts.leave" = true)
    (k_Starts_leave:PySem.W.keepIn K (.ref i_Starts_leave)=true)
    {i_Starts_stands:Addr} {od_Starts_stands an_Starts_stands:Option Addr} {sl_Starts_stands:Array (Option Value)} {oc_Starts_stands kV_Starts_stands dc_Starts_stands pm_Starts_stands co_Starts_stands ct_Starts_stands:Value}
    (a_Starts_stands:PySem.W.findIn K (.ref c_Starts) "stands" = some (some (.ref i_Starts_stands)))
    (i_Starts_stands_fn:PySem.W.isFn K (.ref i_Starts_stands)=true)
    (l_Starts_stands:K.lookup i_Starts_stands=some ⟨oc_Starts_stands,od_Starts_stands,.func (PySem.W.fnOf "stands" "Starts.stands" (zam zcq) (zal zcq) (zac zcq) .none kV_Starts_stands dc_Starts_stands pm_Starts_stands an_Starts_stands co_Starts_stands ct_Starts_stands),sl_Starts_stands⟩)
    (c_Starts_stands_cd:PySem.W.codeIn K co_Starts_stands "Starts.stands" = true)
    (k_Starts_stands:PySem.W.keepIn K (.ref i_Starts_stands)=true)
    {i_Starts_up_Chooser:Addr} {od_Starts_up_Chooser an_Starts_up_Chooser:Option Addr} {sl_Starts_up_Chooser:Array (Option Value)} {oc_Starts_up_Chooser kV_Starts_up_Chooser dc_Starts_up_Chooser pm_Starts_up_Chooser co_Starts_up_Chooser ct_Starts_up_Chooser:Value}
    (a_Starts_up_Chooser:PySem.W.findIn K (.ref c_Chooser) "__init__" = some (some (.ref i_Starts_up_Chooser)))
    (i_Starts_up_Chooser_fn:PySem.W.isFn K (.ref i_Starts_up_Chooser)=true)
    (l_Starts_up_Chooser:K.lookup i_Starts_up_Chooser=some ⟨oc_Starts_up_Chooser,od_Starts_up_Chooser,.func (PySem.W.fnOf "__init__" "Chooser.__init__" (zam zbh) (zal zbh) (zac zbh) .none kV_Starts_up_Chooser dc_Starts_up_Chooser pm_Starts_up_Chooser an_Starts_up_Chooser co_Starts_up_Chooser ct_Starts_up_Chooser),sl_Starts_up_Chooser⟩)
    (c_Starts_up_Chooser_cd:PySem.W.codeIn K co_Starts_up_Chooser "Chooser.__init__" = true)
    (r_Starts_up_Chooser:PySem.W.readsIn K c_Chooser (.type "type")=true)
    (q_Starts_up_Chooser:PySem.W.findCls K (.ref c_Chooser) (.type "type") "__init__" = some (.val (.ref i_Starts_up_Chooser)))
    (g_Starts_up_Chooser:PySem.W.specialIn K (.ref c_Chooser) "__getattribute__" = some (some (.builtin "type.__getattribute__")))
    (k_Starts_up_Chooser:PySem.W.keepIn K (.ref i_Starts_up_Chooser)=true)
    {i_Starts_put:Addr} {od_Starts_put an_Starts_put:Option Addr} {sl_Starts_put:Array (Option Value)} {oc_Starts_put kV_Starts_put dc_Starts_put pm_Starts_put co_Starts_put ct_Starts_put:Value}
    (a_Starts_put:PySem.W.findIn K (.ref c_Starts) "put" = some (some (.ref i_Starts_put)))
    (i_Starts_put_fn:PySem.W.isFn K (.ref i_Starts_put)=true)
    (l_Starts_put:K.lookup i_Starts_put=some ⟨oc_Starts_put,od_Starts_put,.func (PySem.W.fnOf "put" "Chooser.put" (zam zdi) (zal zdi) (zac zdi) .none kV_Starts_put dc_Starts_put pm_Starts_put an_Starts_put co_Starts_put ct_Starts_put),sl_Starts_put⟩)
    (c_Starts_put_cd:PySem.W.codeIn K co_Starts_put "Chooser.put" = true)
    (k_Starts_put:PySem.W.keepIn K (.ref i_Starts_put)=true)
    {i_Starts_take:Addr} {od_Starts_take an_Starts_take:Option Addr} {sl_Starts_take:Array (Option Value)} {oc_Starts_take kV_Starts_take dc_Starts_take pm_Starts_take co_Starts_take ct_Starts_take:Value}
    (a_Starts_take:PySem.W.findIn K (.ref c_Starts) "take" = some (some (.ref i_Starts_take)))
    (i_Starts_take_fn:PySem.W.isFn K (.ref i_Starts_take)=true)
    (l_Starts_take:K.lookup i_Starts_take=some ⟨oc_Starts_take,od_Starts_take,.func (PySem.W.fnOf "take" "Chooser.take" (zam zcw) (zal zcw) (zac zcw) .none kV_Starts_take dc_Starts_take pm_Starts_take an_Starts_take co_Starts_take ct_Starts_take),sl_Starts_take⟩)
    (c_Starts_take_cd:PySem.W.codeIn K co_Starts_take "Chooser.take" = true)
    (k_Starts_take:PySem.W.keepIn K (.ref i_Starts_take)=true)
    {i_Starts_names:Addr} {od_Starts_names an_Starts_names:Option Addr} {sl_Starts_names:Array (Option Value)} {oc_Starts_names kV_Starts_names dc_Starts_names pm_Starts_names co_Starts_names ct_Starts_names:Value}
    (a_Starts_names:PySem.W.findIn K (.ref c_Starts) "names" = some (some (.ref i_Starts_names)))
    (i_Starts_names_fn:PySem.W.isFn K (.ref i_Starts_names)=true)
    (l_Starts_names:K.lookup i_Starts_names=some ⟨oc_Starts_names,od_Starts_names,.func (PySem.W.fnOf "names" "Chooser.names" (zam zci) (zal zci) (zac zci) .none kV_Starts_names dc_Starts_names pm_Starts_names an_Starts_names co_Starts_names ct_Starts_names),sl_Starts_names⟩)
    (c_Starts_names_cd:PySem.W.codeIn K co_Starts_names "Chooser.names" = true)
    (k_Starts_names:PySem.W.keepIn K (.ref i_Starts_names)=true)
    {c_Rounds:Addr}
    (b_Rounds:PySem.W.nsIn K mainGlobals "Rounds" = some (some (.ref c_Rounds)))
    (pg_Rounds:PySem.W.plainGet K c_Rounds Str.empty=true)
    (hd_Rounds:PySem.W.hasDictIn K c_Rounds=true)
    (po_Rounds:PySem.W.plainOver K c_Rounds=true)
    (sa_Rounds:PySem.W.findIn K (.ref c_Rounds) "__setattr__" = some (some (.builtin "object.__setattr__")))
    (mk_Rounds:PySem.W.makesIn K c_Rounds=true)
    (kc_Rounds:PySem.W.keepIn K (.ref c_Rounds)=true)
    (na_Rounds_queue:PySem.W.findIn K (.ref c_Rounds) "queue" = some none)
    (na_Rounds_rests:PySem.W.findIn K (.ref c_Rounds) "rests" = some none)
    (na_Rounds_turn:PySem.W.findIn K (.ref c_Rounds) "turn" = some none)
    (na_Rounds_most:PySem.W.findIn K (.ref c_Rounds) "most" = some none)
    (na_Rounds_members:PySem.W.findIn K (.ref c_Rounds) "members" = some none)
    (na_Rounds_chosen:PySem.W.findIn K (.ref c_Rounds) "chosen" = some none)
    {i_Rounds_init:Addr} {od_Rounds_init an_Rounds_init:Option Addr} {sl_Rounds_init:Array (Option Value)} {oc_Rounds_init kV_Rounds_init dc_Rounds_init pm_Rounds_init co_Rounds_init ct_Rounds_init:Value}
    (a_Rounds_init:PySem.W.findIn K (.ref c_Rounds) "__init__" = some (some (.ref i_Rounds_init)))
    (i_Rounds_init_fn:PySem.W.isFn K (.ref i_Rounds_init)=true)
    (l_Rounds_init:K.lookup i_Rounds_init=some ⟨oc_Rounds_init,od_Rounds_init,.func (PySem.W.fnOf "__init__" "Rounds.__init__" (zam zcx) (zal zcx) (zac zcx) .none kV_Rounds_init dc_Rounds_init pm_Rounds_init an_Rounds_init co_Rounds_init ct_Rounds_init),sl_Rounds_init⟩)
    (c_Rounds_init_cd:PySem.W.codeIn K co_Rounds_init "Rounds.__init__" = true)
    (k_Rounds_init:PySem.W.keepIn K (.ref i_Rounds_init)=true)
    {i_Rounds_enter:Addr} {od_Rounds_enter an_Rounds_enter:Option Addr} {sl_Rounds_enter:Array (Option Value)} {oc_Rounds_enter kV_Rounds_enter dc_Rounds_enter pm_Rounds_enter co_Rounds_enter ct_Rounds_enter:Value}
    (a_Rounds_enter:PySem.W.findIn K (.ref c_Rounds) "enter" = some (some (.ref i_Rounds_enter)))
    (i_Rounds_enter_fn:PySem.W.isFn K (.ref i_Rounds_enter)=true)
    (l_Rounds_enter:K.lookup i_Rounds_enter=some ⟨oc_Rounds_enter,od_Rounds_enter,.func (PySem.W.fnOf "enter" "Rounds.enter" (zam zcj) (zal zcj) (zac zcj) .none kV_Rounds_enter dc_Rounds_enter pm_Rounds_enter an_Rounds_enter co_Rounds_enter ct_Rounds_enter),sl_Rounds_enter⟩)
    (c_Rounds_enter_cd:PySem.W.codeIn K co_Rounds_enter "Rounds.enter" = true)
    (k_Rounds_enter:PySem.W.keepIn K (.ref i_Rounds_enter)=true)
    {i_Rounds_leave:Addr} {od_Rounds_leave an_Rounds_leave:Option Addr} {sl_Rounds_leave:Array (Option Value)} {oc_Rounds_leave kV_Rounds_leave dc_Rounds_leave pm_Rounds_leave co_Rounds_leave ct_Rounds_leave:Value}
    (a_Rounds_leave:PySem.W.findIn K (.ref c_Rounds) "leave" = some (some (.ref i_Rounds_leave)))
    (i_Rounds_leave_fn:PySem.W.isFn K (.ref i_Rounds_leave)=true)
    (l_Rounds_leave:K.lookup i_Rounds_leave=some ⟨oc_Rounds_leave,od_Rounds_leave,.func (PySem.W.fnOf "leave" "Rounds.leave" (zam zck) (zal zck) (zac zck) .none kV_Rounds_leave dc_Rounds_leave pm_Rounds_leave an_Rounds_leave co_Rounds_leave ct_Rounds_leave),sl_Rounds_leave⟩)
    (c_Rounds_leave_cd:PySem.W.codeIn K co_Rounds_leave "Rounds.leave" = true)
    (k_Rounds_leave:PySem.W.keepIn K (.ref i_Rounds_leave)=true)
    {i_Rounds_rest:Addr} {od_Rounds_rest an_Rounds_rest:Option Addr} {sl_Rounds_rest:Array (Option Value)} {oc_Rounds_rest kV_Rounds_rest dc_Rounds_rest pm_Rounds_rest co_Rounds_rest ct_Rounds_rest:Value}
    (a_Rounds_rest:PySem.W.findIn K (.ref c_Rounds) "rest" = some (some (.ref i_Rounds_rest)))
    (i_Rounds_rest_fn:PySem.W.isFn K (.ref i_Rounds_rest)=true)
    (l_Rounds_rest:K.lookup i_Rounds_rest=some ⟨oc_Rounds_rest,od_Rounds_rest,.func (PySem.W.fnOf "rest" "Rounds.rest" (zam zdq) (zal zdq) (zac zdq) .none kV_Rounds_rest dc_Rounds_rest pm_Rounds_rest an_Rounds_rest co_Rounds_rest ct_Rounds_rest),sl_Rounds_rest⟩)
    (c_Rounds_rest_cd:PySem.W.codeIn K co_Rounds_rest "Rounds.rest" = true)
    (k_Rounds_rest:PySem.W.keepIn K (.ref i_Rounds_rest)=true)
    {i_Rounds_up_Chooser:Addr} {od_Rounds_up_Chooser an_Rounds_up_Chooser:Option Addr} {sl_Rounds_up_Chooser:Array (Option Value)} {oc_Rounds_up_Chooser kV_Rounds_up_Chooser dc_Rounds_up_Chooser pm_Rounds_up_Chooser co_Rounds_up_Chooser ct_Rounds_up_Chooser:Value}
    (a_Rounds_up_Chooser:PySem.W.findIn K (.ref c_Chooser) "__init__" = some (some (.ref i_Rounds_up_Chooser)))
    (i_Rounds_up_Chooser_fn:PySem.W.isFn K (.ref i_Rounds_up_Chooser)=true)
    (l_Rounds_up_Chooser:K.lookup i_Rounds_up_Chooser=some ⟨oc_Rounds_up_Chooser,od_Rounds_up_Chooser,.func (PySem.W.fnOf "__init__" "Chooser.__init__" (zam zbi) (zal zbi) (zac zbi) .none kV_Rounds_up_Chooser dc_Rounds_up_Chooser pm_Rounds_up_Chooser an_Rounds_up_Chooser co_Rounds_up_Chooser ct_Rounds_up_Chooser),sl_Rounds_up_Chooser⟩)
    (c_Rounds_up_Chooser_cd:PySem.W.codeIn K co_Rounds_up_Chooser "Chooser.__init__" = true)
    (r_Rounds_up_Chooser:PySem.W.readsIn K c_Chooser (.type "type")=true)
    (q_Rounds_up_Chooser:PySem.W.findCls K (.ref c_Chooser) (.type "type") "__init__" = some (.val (.ref i_Rounds_up_Chooser)))
    (g_Rounds_up_Chooser:PySem.W.specialIn K (.ref c_Chooser) "__getattribute__" = some (some (.builtin "type.__getattribute__")))
    (k_Rounds_up_Chooser:PySem.W.keepIn K (.ref i_Rounds_up_Chooser)=true)
    {i_Rounds_put:Addr} {od_Rounds_put an_Rounds_put:Option Addr} {sl_Rounds_put:Array (Option Value)} {oc_Rounds_put kV_Rounds_put dc_Rounds_put pm_Rounds_put co_Rounds_put ct_Rounds_put:Value}
    (a_Rounds_put:PySem.W.findIn K (.ref c_Rounds) "put" = some (some (.ref i_Rounds_put)))
    (i_Rounds_put_fn:PySem.W.isFn K (.ref i_Rounds_put)=true)
    (l_Rounds_put:K.lookup i_Rounds_put=some ⟨oc_Rounds_put,od_Rounds_put,.func (PySem.W.fnOf "put" "Chooser.put" (zam zdj) (zal zdj) (zac zdj) .none kV_Rounds_put dc_Rounds_put pm_Rounds_put an_Rounds_put co_Rounds_put ct_Rounds_put),sl_Rounds_put⟩)
    (c_Rounds_put_cd:PySem.W.codeIn K co_Rounds_put "Chooser.put" = true)
    (k_Rounds_put:PySem.W.keepIn K (.ref i_Rounds_put)=true)
    {i_Rounds_take:Addr} {od_Rounds_take an_Rounds_take:Option Addr} {sl_Rounds_take:Array (Option Value)} {oc_Rounds_take kV_Rounds_take dc_Rounds_take pm_Rounds_take co_Rounds_take ct_Rounds_take:Value}
    (a_Rounds_take:PySem.W.findIn K (.ref c_Rounds) "take" = some (some (.ref i_Rounds_take)))
    (i_Rounds_take_fn:PySem.W.isFn K (.ref i_Rounds_take)=true)
    (l_Rounds_take:K.lookup i_Rounds_take=some ⟨oc_Rounds_take,od_Rounds_take,.func (PySem.W.fnOf "take" "Chooser.take" (zam zcy) (zal zcy) (zac zcy) .none kV_Rounds_take dc_Rounds_take pm_Rounds_take an_Rounds_take co_Rounds_take ct_Rounds_take),sl_Rounds_take⟩)
    (c_Rounds_take_cd:PySem.W.codeIn K co_Rounds_take "Chooser.take" = true)
    (k_Rounds_take:PySem.W.keepIn K (.ref i_Rounds_take)=true)
    {i_Rounds_names:Addr} {od_Rounds_names an_Rounds_names:Option Addr} {sl_Rounds_names:Array (Option Value)} {oc_Rounds_names kV_Rounds_names dc_Rounds_names pm_Rounds_names co_Rounds_names ct_Rounds_names:Value}
    (a_Rounds_names:PySem.W.findIn K (.ref c_Rounds) "names" = some (some (.ref i_Rounds_names)))
    (i_Rounds_names_fn:PySem.W.isFn K (.ref i_Rounds_names)=true)
    (l_Rounds_names:K.lookup i_Rounds_names=some ⟨oc_Rounds_names,od_Rounds_names,.func (PySem.W.fnOf "names" "Chooser.names" (zam zcl) (zal zcl) (zac zcl) .none kV_Rounds_names dc_Rounds_names pm_Rounds_names an_Rounds_names co_Rounds_names ct_Rounds_names),sl_Rounds_names⟩)
    (c_Rounds_names_cd:PySem.W.codeIn K co_Rounds_names "Chooser.names" = true)
    (k_Rounds_names:PySem.W.keepIn K (.ref i_Rounds_names)=true)
    {c_Node:Addr}
    (b_Node:PySem.W.nsIn K mainGlobals "Node" = some (some (.ref c_Node)))
    (pg_Node:PySem.W.plainGet K c_Node Str.empty=true)
    (hd_Node:PySem.W.hasDictIn K c_Node=true)
    (po_Node:PySem.W.plainOver K c_Node=true)
    (sa_Node:PySem.W.findIn K (.ref c_Node) "__setattr__" = some (some (.builtin "object.__setattr__")))
    (mk_Node:PySem.W.makesIn K c_Node=true)
    (kc_Node:PySem.W.keepIn K (.ref c_Node)=true)
    (na_Node_above:PySem.W.findIn K (.ref c_Node) "above" = some none)
    (na_Node_chooser:PySem.W.findIn K (.ref c_Node) "chooser" = some none)
    (na_Node_room:PySem.W.findIn K (.ref c_Node) "room" = some none)
    (na_Node_bucket:PySem.W.findIn K (.ref c_Node) "bucket" = some none)
    (na_Node_queue:PySem.W.findIn K (.ref c_Node) "queue" = some none)
    {i_Node_init:Addr} {od_Node_init an_Node_init:Option Addr} {sl_Node_init:Array (Option Value)} {oc_Node_init kV_Node_init dc_Node_init pm_Node_init co_Node_init ct_Node_init:Value}
    {dt_Node_init:Addr} {do_Node_init:Value} {dd_Node_init:Option Addr} {dn_Node_init:Nat} {dl_Node_init:Array (Option Value)}
    (a_Node_init:PySem.W.findIn K (.ref c_Node) "__init__" = some (some (.ref i_Node_init)))
    (i_Node_init_fn:PySem.W.isFn K (.ref i_Node_init)=true)
    (l_Node_init:K.lookup i_Node_init=some ⟨oc_Node_init,od_Node_init,.func (PySem.W.fnOf "__init__" "Node.__init__" (zam zbu) (zal zbu) (zac zbu) (.ref dt_Node_init) kV_Node_init dc_Node_init pm_Node_init an_Node_init co_Node_init ct_Node_init),sl_Node_init⟩)
    (c_Node_init_cd:PySem.W.codeIn K co_Node_init "Node.__init__" = true)
    (k_Node_init:PySem.W.keepIn K (.ref i_Node_init)=true)
    (dk_Node_init:K.lookup dt_Node_init=some ⟨do_Node_init,dd_Node_init,.seq #[.none] dn_Node_init,dl_Node_init⟩)
    {i_Node_has_children:Addr} {od_Node_has_children an_Node_has_children:Option Addr} {sl_Node_has_children:Array (Option Value)} {oc_Node_has_children kV_Node_has_children dc_Node_has_children pm_Node_has_children co_Node_has_children ct_Node_has_children:Value}
    (a_Node_has_children:PySem.W.findIn K (.ref c_Node) "has_children" = some (some (.ref i_Node_has_children)))
    (i_Node_has_children_fn:PySem.W.isFn K (.ref i_Node_has_children)=true)
    (l_Node_has_children:K.lookup i_Node_has_children=some ⟨oc_Node_has_children,od_Node_has_children,.func (PySem.W.fnOf "has_children" "Node.has_children" (zam zbj) (zal zbj) (zac zbj) .none kV_Node_has_children dc_Node_has_children pm_Node_has_children an_Node_has_children co_Node_has_children ct_Node_has_children),sl_Node_has_children⟩)
    (c_Node_has_children_cd:PySem.W.codeIn K co_Node_has_children "Node.has_children" = true)
    (k_Node_has_children:PySem.W.keepIn K (.ref i_Node_has_children)=true)
    {i_Node_has_room_for:Addr} {od_Node_has_room_for an_Node_has_room_for:Option Addr} {sl_Node_has_room_for:Array (Option Value)} {oc_Node_has_room_for kV_Node_has_room_for dc_Node_has_room_for pm_Node_has_room_for co_Node_has_room_for ct_Node_has_room_for:Value}
    (a_Node_has_room_for:PySem.W.findIn K (.ref c_Node) "has_room_for" = some (some (.ref i_Node_has_room_for)))
    (i_Node_has_room_for_fn:PySem.W.isFn K (.ref i_Node_has_room_for)=true)
    (l_Node_has_room_for:K.lookup i_Node_has_room_for=some ⟨oc_Node_has_room_for,od_Node_has_room_for,.func (PySem.W.fnOf "has_room_for" "Node.has_room_for" (zam zbk) (zal zbk) (zac zbk) .none kV_Node_has_room_for dc_Node_has_room_for pm_Node_has_room_for an_Node_has_room_for co_Node_has_room_for ct_Node_has_room_for),sl_Node_has_room_for⟩)
    (c_Node_has_room_for_cd:PySem.W.codeIn K co_Node_has_room_for "Node.has_room_for" = true)
    (k_Node_has_room_for:PySem.W.keepIn K (.ref i_Node_has_room_for)=true)
    {c_Tree:Addr}
    (b_Tree:PySem.W.nsIn K mainGlobals "Tree" = some (some (.ref c_Tree)))
    (pg_Tree:PySem.W.plainGet K c_Tree Str.empty=true)
    (hd_Tree:PySem.W.hasDictIn K c_Tree=true)
    (po_Tree:PySem.W.plainOver K c_Tree=true)
    (sa_Tree:PySem.W.findIn K (.ref c_Tree) "__setattr__" = some (some (.builtin "object.__setattr__")))
    (mk_Tree:PySem.W.makesIn K c_Tree=true)
    (kc_Tree:PySem.W.keepIn K (.ref c_Tree)=true)
    (na_Tree_most:PySem.W.findIn K (.ref c_Tree) "most" = some none)
    (na_Tree_nodes:PySem.W.findIn K (.ref c_Tree) "nodes" = some none)
    (na_Tree_time:PySem.W.findIn K (.ref c_Tree) "time" = some none)
    (na_Tree_free:PySem.W.findIn K (.ref c_Tree) "free" = some none)
    (na_Tree_counted:PySem.W.findIn K (.ref c_Tree) "counted" = some none)
    (na_Tree_gone:PySem.W.findIn K (.ref c_Tree) "gone" = some none)
    {i_Tree_init:Addr} {od_Tree_init an_Tree_init:Option Addr} {sl_Tree_init:Array (Option Value)} {oc_Tree_init kV_Tree_init dc_Tree_init pm_Tree_init co_Tree_init ct_Tree_init:Value}
    {dt_Tree_init:Addr} {do_Tree_init:Value} {dd_Tree_init:Option Addr} {dn_Tree_init:Nat} {dl_Tree_init:Array (Option Value)} {tk0_Tree_init:Tok}
    (a_Tree_init:PySem.W.findIn K (.ref c_Tree) "__init__" = some (some (.ref i_Tree_init)))
    (i_Tree_init_fn:PySem.W.isFn K (.ref i_Tree_init)=true)
    (l_Tree_init:K.lookup i_Tree_init=some ⟨oc_Tree_init,od_Tree_init,.func (PySem.W.fnOf "__init__" "Tree.__init__" (zam zbv) (zal zbv) (zac zbv) (.ref dt_Tree_init) kV_Tree_init dc_Tree_init pm_Tree_init an_Tree_init co_Tree_init ct_Tree_init),sl_Tree_init⟩)
    (c_Tree_init_cd:PySem.W.codeIn K co_Tree_init "Tree.__init__" = true)
    (k_Tree_init:PySem.W.keepIn K (.ref i_Tree_init)=true)
    (dk_Tree_init:K.lookup dt_Tree_init=some ⟨do_Tree_init,dd_Tree_init,.seq #[.str (Str.ofString "starts") tk0_Tree_init] dn_Tree_init,dl_Tree_init⟩)
    {i_Tree_check_class:Addr} {od_Tree_check_class an_Tree_check_class:Option Addr} {sl_Tree_check_class:Array (Option Value)} {oc_Tree_check_class kV_Tree_check_class dc_Tree_check_class pm_Tree_check_class co_Tree_check_class ct_Tree_check_class:Value}
    (a_Tree_check_class:PySem.W.findIn K (.ref c_Tree) "check_class" = some (some (.ref i_Tree_check_class)))
    (i_Tree_check_class_fn:PySem.W.isFn K (.ref i_Tree_check_class)=true)
    (l_Tree_check_class:K.lookup i_Tree_check_class=some ⟨oc_Tree_check_class,od_Tree_check_class,.func (PySem.W.fnOf "check_class" "Tree.check_class" (zam zbn) (zal zbn) (zac zbn) .none kV_Tree_check_class dc_Tree_check_class pm_Tree_check_class an_Tree_check_class co_Tree_check_class ct_Tree_check_class),sl_Tree_check_class⟩)
    (c_Tree_check_class_cd:PySem.W.codeIn K co_Tree_check_class "Tree.check_class" = true)
    (k_Tree_check_class:PySem.W.keepIn K (.ref i_Tree_check_class)=true)
    {i_Tree_check_leaf:Addr} {od_Tree_check_leaf an_Tree_check_leaf:Option Addr} {sl_Tree_check_leaf:Array (Option Value)} {oc_Tree_check_leaf kV_Tree_check_leaf dc_Tree_check_leaf pm_Tree_check_leaf co_Tree_check_leaf ct_Tree_check_leaf:Value}
    (a_Tree_check_leaf:PySem.W.findIn K (.ref c_Tree) "check_leaf" = some (some (.ref i_Tree_check_leaf)))
    (i_Tree_check_leaf_fn:PySem.W.isFn K (.ref i_Tree_check_leaf)=true)
    (l_Tree_check_leaf:K.lookup i_Tree_check_leaf=some ⟨oc_Tree_check_leaf,od_Tree_check_leaf,.func (PySem.W.fnOf "check_leaf" "Tree.check_leaf" (zam zbp) (zal zbp) (zac zbp) .none kV_Tree_check_leaf dc_Tree_check_leaf pm_Tree_check_leaf an_Tree_check_leaf co_Tree_check_leaf ct_Tree_check_leaf),sl_Tree_check_leaf⟩)
    (c_Tree_check_leaf_cd:PySem.W.codeIn K co_Tree_check_leaf "Tree.check_leaf" = true)
    (k_Tree_check_leaf:PySem.W.keepIn K (.ref i_Tree_check_leaf)=true)
    {i_Tree_check_place:Addr} {od_Tree_check_place an_Tree_check_place:Option Addr} {sl_Tree_check_place:Array (Option Value)} {oc_Tree_check_place kV_Tree_check_place dc_Tree_check_place pm_Tree_check_place co_Tree_check_place ct_Tree_check_place:Value}
    (a_Tree_check_place:PySem.W.findIn K (.ref c_Tree) "check_place" = some (some (.ref i_Tree_check_place)))
    (i_Tree_check_place_fn:PySem.W.isFn K (.ref i_Tree_check_place)=true)
    (l_Tree_check_place:K.lookup i_Tree_check_place=some ⟨oc_Tree_check_place,od_Tree_check_place,.func (PySem.W.fnOf "check_place" "Tree.check_place" (zam zbo) (zal zbo) (zac zbo) .none kV_Tree_check_place dc_Tree_check_place pm_Tree_check_place an_Tree_check_place co_Tree_check_place ct_Tree_check_place),sl_Tree_check_place⟩)
    (c_Tree_check_place_cd:PySem.W.codeIn K co_Tree_check_place "Tree.check_place" = true)
    (k_Tree_check_place:PySem.W.keepIn K (.ref i_Tree_check_place)=true)
    {i_Tree_put:Addr} {od_Tree_put an_Tree_put:Option Addr} {sl_Tree_put:Array (Option Value)} {oc_Tree_put kV_Tree_put dc_Tree_put pm_Tree_put co_Tree_put ct_Tree_put:Value}
    {dt_Tree_put:Addr} {do_Tree_put:Value} {dd_Tree_put:Option Addr} {dn_Tree_put:Nat} {dl_Tree_put:Array (Option Value)}
    (a_Tree_put:PySem.W.findIn K (.ref c_Tree) "put" = some (some (.ref i_Tree_put)))
    (i_Tree_put_fn:PySem.W.isFn K (.ref i_Tree_put)=true)
    (l_Tree_put:K.lookup i_Tree_put=some ⟨oc_Tree_put,od_Tree_put,.func (PySem.W.fnOf "put" "Tree.put" (zam zcc) (zal zcc) (zac zcc) (.ref dt_Tree_put) kV_Tree_put dc_Tree_put pm_Tree_put an_Tree_put co_Tree_put ct_Tree_put),sl_Tree_put⟩)
    (c_Tree_put_cd:PySem.W.codeIn K co_Tree_put "Tree.put" = true)
    (k_Tree_put:PySem.W.keepIn K (.ref i_Tree_put)=true)
    (dk_Tree_put:K.lookup dt_Tree_put=some ⟨do_Tree_put,dd_Tree_put,.seq #[.none] dn_Tree_put,dl_Tree_put⟩)
    {i_Tree_take:Addr} {od_Tree_take an_Tree_take:Option Addr} {sl_Tree_take:Array (Option Value)} {oc_Tree_take kV_Tree_take dc_Tree_take pm_Tree_take co_Tree_take ct_Tree_take:Value}
    (a_Tree_take:PySem.W.findIn K (.ref c_Tree) "take" = some (some (.ref i_Tree_take)))
    (i_Tree_take_fn:PySem.W.isFn K (.ref i_Tree_take)=true)
    (l_Tree_take:K.lookup i_Tree_take=some ⟨oc_Tree_take,od_Tree_take,.func (PySem.W.fnOf "take" "Tree.take" (zam zdt) (zal zdt) (zac zdt) .none kV_Tree_take dc_Tree_take pm_Tree_take an_Tree_take co_Tree_take ct_Tree_take),sl_Tree_take⟩)
    (c_Tree_take_cd:PySem.W.codeIn K co_Tree_take "Tree.take" = true)
    (k_Tree_take:PySem.W.keepIn K (.ref i_Tree_take)=true)
    {i_Tree_come:Addr} {od_Tree_come an_Tree_come:Option Addr} {sl_Tree_come:Array (Option Value)} {oc_Tree_come kV_Tree_come dc_Tree_come pm_Tree_come co_Tree_come ct_Tree_come:Value}
    (a_Tree_come:PySem.W.findIn K (.ref c_Tree) "come" = some (some (.ref i_Tree_come)))
    (i_Tree_come_fn:PySem.W.isFn K (.ref i_Tree_come)=true)
    (l_Tree_come:K.lookup i_Tree_come=some ⟨oc_Tree_come,od_Tree_come,.func (PySem.W.fnOf "come" "Tree.come" (zam zdu) (zal zdu) (zac zdu) .none kV_Tree_come dc_Tree_come pm_Tree_come an_Tree_come co_Tree_come ct_Tree_come),sl_Tree_come⟩)
    (c_Tree_come_cd:PySem.W.codeIn K co_Tree_come "Tree.come" = true)
    (k_Tree_come:PySem.W.keepIn K (.ref i_Tree_come)=true)
    {i_Tree_now:Addr} {od_Tree_now an_Tree_now:Option Addr} {sl_Tree_now:Array (Option Value)} {oc_Tree_now kV_Tree_now dc_Tree_now pm_Tree_now co_Tree_now ct_Tree_now:Value}
    (a_Tree_now:PySem.W.findIn K (.ref c_Tree) "now" = some (some (.ref i_Tree_now)))
    (i_Tree_now_fn:PySem.W.isFn K (.ref i_Tree_now)=true)
    (l_Tree_now:K.lookup i_Tree_now=some ⟨oc_Tree_now,od_Tree_now,.func (PySem.W.fnOf "now" "Tree.now" (zam zel) (zal zel) (zac zel) .none kV_Tree_now dc_Tree_now pm_Tree_now an_Tree_now co_Tree_now ct_Tree_now),sl_Tree_now⟩)
    (c_Tree_now_cd:PySem.W.codeIn K co_Tree_now "Tree.now" = true)
    (k_Tree_now:PySem.W.keepIn K (.ref i_Tree_now)=true)
    {i_Tree_goings:Addr} {od_Tree_goings an_Tree_goings:Option Addr} {sl_Tree_goings:Array (Option Value)} {oc_Tree_goings kV_Tree_goings dc_Tree_goings pm_Tree_goings co_Tree_goings ct_Tree_goings:Value}
    (a_Tree_goings:PySem.W.findIn K (.ref c_Tree) "goings" = some (some (.ref i_Tree_goings)))
    (i_Tree_goings_fn:PySem.W.isFn K (.ref i_Tree_goings)=true)
    (l_Tree_goings:K.lookup i_Tree_goings=some ⟨oc_Tree_goings,od_Tree_goings,.func (PySem.W.fnOf "goings" "Tree.goings" (zam zcz) (zal zcz) (zac zcz) .none kV_Tree_goings dc_Tree_goings pm_Tree_goings an_Tree_goings co_Tree_goings ct_Tree_goings),sl_Tree_goings⟩)
    (c_Tree_goings_cd:PySem.W.codeIn K co_Tree_goings "Tree.goings" = true)
    (k_Tree_goings:PySem.W.keepIn K (.ref i_Tree_goings)=true)
    {i_Tree_waiting:Addr} {od_Tree_waiting an_Tree_waiting:Option Addr} {sl_Tree_waiting:Array (Option Value)} {oc_Tree_waiting kV_Tree_waiting dc_Tree_waiting pm_Tree_waiting co_Tree_waiting ct_Tree_waiting:Value}
    (a_Tree_waiting:PySem.W.findIn K (.ref c_Tree) "waiting" = some (some (.ref i_Tree_waiting)))
    (i_Tree_waiting_fn:PySem.W.isFn K (.ref i_Tree_waiting)=true)
    (l_Tree_waiting:K.lookup i_Tree_waiting=some ⟨oc_Tree_waiting,od_Tree_waiting,.func (PySem.W.fnOf "waiting" "Tree.waiting" (zam zcm) (zal zcm) (zac zcm) .none kV_Tree_waiting dc_Tree_waiting pm_Tree_waiting an_Tree_waiting co_Tree_waiting ct_Tree_waiting),sl_Tree_waiting⟩)
    (c_Tree_waiting_cd:PySem.W.codeIn K co_Tree_waiting "Tree.waiting" = true)
    (k_Tree_waiting:PySem.W.keepIn K (.ref i_Tree_waiting)=true)
    {i_Tree_way:Addr} {od_Tree_way an_Tree_way:Option Addr} {sl_Tree_way:Array (Option Value)} {oc_Tree_way kV_Tree_way dc_Tree_way pm_Tree_way co_Tree_way ct_Tree_way:Value}
    (a_Tree_way:PySem.W.findIn K (.ref c_Tree) "way" = some (some (.ref i_Tree_way)))
    (i_Tree_way_fn:PySem.W.isFn K (.ref i_Tree_way)=true)
    (l_Tree_way:K.lookup i_Tree_way=some ⟨oc_Tree_way,od_Tree_way,.func (PySem.W.fnOf "way" "Tree.way" (zam zem) (zal zem) (zac zem) .none kV_Tree_way dc_Tree_way pm_Tree_way an_Tree_way co_Tree_way ct_Tree_way),sl_Tree_way⟩)
    (c_Tree_way_cd:PySem.W.codeIn K co_Tree_way "Tree.way" = true)
    (k_Tree_way:PySem.W.keepIn K (.ref i_Tree_way)=true)
    {i_Tree_below:Addr} {od_Tree_below an_Tree_below:Option Addr} {sl_Tree_below:Array (Option Value)} {oc_Tree_below kV_Tree_below dc_Tree_below pm_Tree_below co_Tree_below ct_Tree_below:Value}
    (a_Tree_below:PySem.W.findIn K (.ref c_Tree) "below" = some (some (.ref i_Tree_below)))
    (i_Tree_below_fn:PySem.W.isFn K (.ref i_Tree_below)=true)
    (l_Tree_below:K.lookup i_Tree_below=some ⟨oc_Tree_below,od_Tree_below,.func (PySem.W.fnOf "below" "Tree.below" (zam zdk) (zal zdk) (zac zdk) .none kV_Tree_below dc_Tree_below pm_Tree_below an_Tree_below co_Tree_below ct_Tree_below),sl_Tree_below⟩)
    (c_Tree_below_cd:PySem.W.codeIn K co_Tree_below "Tree.below" = true)
    (k_Tree_below:PySem.W.keepIn K (.ref i_Tree_below)=true)
    {i_Tree_chooser_over:Addr} {od_Tree_chooser_over an_Tree_chooser_over:Option Addr} {sl_Tree_chooser_over:Array (Option Value)} {oc_Tree_chooser_over kV_Tree_chooser_over dc_Tree_chooser_over pm_Tree_chooser_over co_Tree_chooser_over ct_Tree_chooser_over:Value}
    (a_Tree_chooser_over:PySem.W.findIn K (.ref c_Tree) "chooser_over" = some (some (.ref i_Tree_chooser_over)))
    (i_Tree_chooser_over_fn:PySem.W.isFn K (.ref i_Tree_chooser_over)=true)
    (l_Tree_chooser_over:K.lookup i_Tree_chooser_over=some ⟨oc_Tree_chooser_over,od_Tree_chooser_over,.func (PySem.W.fnOf "chooser_over" "Tree.chooser_over" (zam zbl) (zal zbl) (zac zbl) .none kV_Tree_chooser_over dc_Tree_chooser_over pm_Tree_chooser_over an_Tree_chooser_over co_Tree_chooser_over ct_Tree_chooser_over),sl_Tree_chooser_over⟩)
    (c_Tree_chooser_over_cd:PySem.W.codeIn K co_Tree_chooser_over "Tree.chooser_over" = true)
    (k_Tree_chooser_over:PySem.W.keepIn K (.ref i_Tree_chooser_over)=true)
    {i_Tree_from_road:Addr} {od_Tree_from_road an_Tree_from_road:Option Addr} {sl_Tree_from_road:Array (Option Value)} {oc_Tree_from_road kV_Tree_from_road dc_Tree_from_road pm_Tree_from_road co_Tree_from_road ct_Tree_from_road:Value}
    (a_Tree_from_road:PySem.W.findIn K (.ref c_Tree) "from_road" = some (some (.ref i_Tree_from_road)))
    (i_Tree_from_road_fn:PySem.W.isFn K (.ref i_Tree_from_road)=true)
    (l_Tree_from_road:K.lookup i_Tree_from_road=some ⟨oc_Tree_from_road,od_Tree_from_road,.func (PySem.W.fnOf "from_road" "Tree.from_road" (zam zbw) (zal zbw) (zac zbw) .none kV_Tree_from_road dc_Tree_from_road pm_Tree_from_road an_Tree_from_road co_Tree_from_road ct_Tree_from_road),sl_Tree_from_road⟩)
    (c_Tree_from_road_cd:PySem.W.codeIn K co_Tree_from_road "Tree.from_road" = true)
    (k_Tree_from_road:PySem.W.keepIn K (.ref i_Tree_from_road)=true)
    {cd_Chooser:ClassData}
    (ci_Chooser:PySem.W.clsIn K c_Chooser=some cd_Chooser)
    (ti_Chooser:PySem.W.typeIn K (.ref c_Chooser)=some (.type "type"))
    (ic_Starts:PySem.W.findIn K (.ref c_Starts) "__class__" = some (some (.builtin "object.__class__")))
    (io_Starts:PySem.W.mroIn K c_Starts (.type "object")=some true)
    (s_Starts_Chooser:PySem.W.subIn K (.ref c_Starts) (.ref c_Chooser)=some true)
    (n_Starts_Chooser:(Value.ref c_Starts == Value.ref c_Chooser)=false)
    (ic_Rounds:PySem.W.findIn K (.ref c_Rounds) "__class__" = some (some (.builtin "object.__class__")))
    (io_Rounds:PySem.W.mroIn K c_Rounds (.type "object")=some true)
    (s_Rounds_Chooser:PySem.W.subIn K (.ref c_Rounds) (.ref c_Chooser)=some true)
    (n_Rounds_Chooser:(Value.ref c_Rounds == Value.ref c_Chooser)=false)
    : ∃ fd:FuncData,(∀ (s:Shared) (v:Value),BindsTo s fd ⟨[v],[]⟩ [("_law_script", v)])/\∀ base:Heap,K.In base->base.Ns mainGlobals mg->FnOk l.prog w K mg base CX0 10 fa fd ["_law_script"] (spLaw K):=by
  have e:=hfa.symm.trans (PySem.W.mg_of X G a23)
  cases e
  have xc_NoName:XC K c_NoName:=⟨hd_NoName,ga_NoName,gn_NoName,sa_NoName,cl_NoName,kg,kt,be_NoName,ob_NoName,zfx ex_NoName⟩
  have xc_Taken:XC K c_Taken:=⟨hd_Taken,ga_Taken,gn_Taken,sa_Taken,cl_Taken,kg,kt,be_Taken,ob_Taken,zfx ex_Taken⟩
  have xc_NoClass:XC K c_NoClass:=⟨hd_NoClass,ga_NoClass,gn_NoClass,sa_NoClass,cl_NoClass,kg,kt,be_NoClass,ob_NoClass,zfx ex_NoClass⟩
  have xc_NoPlace:XC K c_NoPlace:=⟨hd_NoPlace,ga_NoPlace,gn_NoPlace,sa_NoPlace,cl_NoPlace,kg,kt,be_NoPlace,ob_NoPlace,zfx ex_NoPlace⟩
  have xc_NoShare:XC K c_NoShare:=⟨hd_NoShare,ga_NoShare,gn_NoShare,sa_NoShare,cl_NoShare,kg,kt,be_NoShare,ob_NoShare,zfx ex_NoShare⟩
  have xc_NoLength:XC K c_NoLength:=⟨hd_NoLength,ga_NoLength,gn_NoLength,sa_NoLength,cl_NoLength,kg,kt,be_NoLength,ob_NoLength,zfx ex_NoLength⟩
  have F1:=zat (st:=zfg) l1 c1 k1
  have F2:=zat (st:=zhx) l2 c2 k2
  have F3:=zat (st:=zje) l3 c3 k3
  have F4:=zat (st:=zfr) l4 c4 k4
  have F5:=zat (st:=zdm) l5 c5 k5
  have F6:=zat (st:=zdx) l6 c6 k6
  have F7:=zat (st:=zfh) l7 c7 k7
  have F8:=zat (st:=zdy) l8 c8 k8
  have F9:=zat (st:=zda) l9 c9 k9
  have F10:=zat (st:=zdn) l10 c10 k10
  have F11:=zat (st:=zdz) l11 c11 k11
  have F12:=zat (st:=zeh) l12 c12 k12
  have F13:=zat (st:=zei) l13 c13 k13
  have F14:=zat (st:=zej) l14 c14 k14
  have F15:=zat (st:=zdb) l15 c15 k15
  have F16:=zat (st:=zbr) l16 c16 k16
  have F17:=zat (st:=zco) l17 c17 k17
  have F18:=zat (st:=zcp) l18 c18 k18
  have F19:=zat (st:=zev) l19 c19 k19
  have F20:=zat (st:=zdo) l20 c20 k20
  have F21:=zat (st:=zek) l21 c21 k21
  have F22:=zat (st:=zdp) l22 c22 k22
  have F_Members_init:=zaz (st:=zce) l_Members_init c_Members_init_cd
  have B_Members_init:=(zat (st:=zce) l_Members_init c_Members_init_cd k_Members_init).binds (ps:=["self"]) (fun _ _ _ _ _ _=>L2.el1 (fun _=>rfl))
  have F_Members_check_name:=zaz (st:=zbf) l_Members_check_name c_Members_check_name_cd
  have B_Members_check_name:=(zat (st:=zbf) l_Members_check_name c_Members_check_name_cd k_Members_check_name).binds (ps:=["self", "name"]) (fun _ _ _ _ _ _=>L2.el2 (fun _ _=>rfl))
  have F_Members_put:=zaz (st:=zcu) l_Members_put c_Members_put_cd
  have B_Members_put:=(zat (st:=zcu) l_Members_put c_Members_put_cd k_Members_put).binds (ps:=["self", "name", "share"]) (fun _ _ _ _ _ _=>L2.el3 (fun _ _ _=>rfl))
  have F_Members_take:=zaz (st:=zcf) l_Members_take c_Members_take_cd
  have B_Members_take:=(zat (st:=zcf) l_Members_take c_Members_take_cd k_Members_take).binds (ps:=["self", "name"]) (fun _ _ _ _ _ _=>L2.el2 (fun _ _=>rfl))
  have F_Members_names:=zaz (st:=zcb) l_Members_names c_Members_names_cd
  have B_Members_names:=(zat (st:=zcb) l_Members_names c_Members_names_cd k_Members_names).binds (ps:=["self"]) (fun _ _ _ _ _ _=>L2.el1 (fun _=>rfl))
  have F_Starts_init:=zaz (st:=zcv) l_Starts_init c_Starts_init_cd
  have B_Starts_init:=(zat (st:=zcv) l_Starts_init c_Starts_init_cd k_Starts_init).binds (ps:=["self", "most"]) (fun _ _ _ _ _ _=>L2.el2 (fun _ _=>rfl))
  have F_Starts_enter:=zaz (st:=zcg) l_Starts_enter c_Starts_enter_cd
  have B_Starts_enter:=(zat (st:=zcg) l_Starts_enter c_Starts_enter_cd k_Starts_enter).binds (ps:=["self", "name"]) (fun _ _ _ _ _ _=>L2.el2 (fun _ _=>rfl))
  have F_Starts_leave:=zaz (st:=zch) l_Starts_leave c_Starts_leave_cd
  have B_Starts_leave:=(zat (st:=zch) l_Starts_leave c_Starts_leave_cd k_Starts_leave).binds (ps:=["self", "name"]) (fun _ _ _ _ _ _=>L2.el2 (fun _ _=>rfl))
  have F_Starts_stands:=zaz (st:=zcq) l_Starts_stands c_Starts_stands_cd
  have B_Starts_stands:=(zat (st:=zcq) l_Starts_stands c_Starts_stands_cd k_Starts_stands).binds (ps:=["self", "name"]) (fun _ _ _ _ _ _=>L2.el2 (fun _ _=>rfl))
  have F_Starts_up_Chooser:=zaz (st:=zbh) l_Starts_up_Chooser c_Starts_up_Chooser_cd
  have B_Starts_up_Chooser:=(zat (st:=zbh) l_Starts_up_Chooser c_Starts_up_Chooser_cd k_Starts_up_Chooser).binds (ps:=["self", "most"]) (fun _ _ _ _ _ _=>L2.el2 (fun _ _=>rfl))
  have F_Starts_put:=zaz (st:=zdi) l_Starts_put c_Starts_put_cd
  have B_Starts_put:=(zat (st:=zdi) l_Starts_put c_Starts_put_cd k_Starts_put).binds (ps:=["self", "name", "share"]) (fun _ _ _ _ _ _=>L2.el3 (fun _ _ _=>rfl))
  have F_Starts_take:=zaz (st:=zcw) l_Starts_take c_Starts_take_cd
  have B_Starts_take:=(zat (st:=zcw) l_Starts_take c_Starts_take_cd k_Starts_take).binds (ps:=["self", "name"]) (fun _ _ _ _ _ _=>L2.el2 (fun _ _=>rfl))
  have F_Starts_names:=zaz (st:=zci) l_Starts_names c_Starts_names_cd
  have B_Starts_names:=(zat (st:=zci) l_Starts_names c_Starts_names_cd k_Starts_names).binds (ps:=["self"]) (fun _ _ _ _ _ _=>L2.el1 (fun _=>rfl))
  have F_Rounds_init:=zaz (st:=zcx) l_Rounds_init c_Rounds_init_cd
  have B_Rounds_init:=(zat (st:=zcx) l_Rounds_init c_Rounds_init_cd k_Rounds_init).binds (ps:=["self", "most"]) (fun _ _ _ _ _ _=>L2.el2 (fun _ _=>rfl))
  have F_Rounds_enter:=zaz (st:=zcj) l_Rounds_enter c_Rounds_enter_cd
  have B_Rounds_enter:=(zat (st:=zcj) l_Rounds_enter c_Rounds_enter_cd k_Rounds_enter).binds (ps:=["self", "name"]) (fun _ _ _ _ _ _=>L2.el2 (fun _ _=>rfl))
  have F_Rounds_leave:=zaz (st:=zck) l_Rounds_leave c_Rounds_leave_cd
  have B_Rounds_leave:=(zat (st:=zck) l_Rounds_leave c_Rounds_leave_cd k_Rounds_leave).binds (ps:=["self", "name"]) (fun _ _ _ _ _ _=>L2.el2 (fun _ _=>rfl))
  have F_Rounds_rest:=zaz (st:=zdq) l_Rounds_rest c_Rounds_rest_cd
  have B_Rounds_rest:=(zat (st:=zdq) l_Rounds_rest c_Rounds_rest_cd k_Rounds_rest).binds (ps:=["self", "name"]) (fun _ _ _ _ _ _=>L2.el2 (fun _ _=>rfl))
  have F_Rounds_up_Chooser:=zaz (st:=zbi) l_Rounds_up_Chooser c_Rounds_up_Chooser_cd
  have B_Rounds_up_Chooser:=(zat (st:=zbi) l_Rounds_up_Chooser c_Rounds_up_Chooser_cd k_Rounds_up_Chooser).binds (ps:=["self", "most"]) (fun _ _ _ _ _ _=>L2.el2 (fun _ _=>rfl))
  have F_Rounds_put:=zaz (st:=zdj) l_Rounds_put c_Rounds_put_cd
  have B_Rounds_put:=(zat (st:=zdj) l_Rounds_put c_Rounds_put_cd k_Rounds_put).binds (ps:=["self", "name", "share"]) (fun _ _ _ _ _ _=>L2.el3 (fun _ _ _=>rfl))
  have F_Rounds_take:=zaz (st:=zcy) l_Rounds_take c_Rounds_take_cd
  have B_Rounds_take:=(zat (st:=zcy) l_Rounds_take c_Rounds_take_cd k_Rounds_take).binds (ps:=["self", "name"]) (fun _ _ _ _ _ _=>L2.el2 (fun _ _=>rfl))
  have F_Rounds_names:=zaz (st:=zcl) l_Rounds_names c_Rounds_names_cd
  have B_Rounds_names:=(zat (st:=zcl) l_Rounds_names c_Rounds_names_cd k_Rounds_names).binds (ps:=["self"]) (fun _ _ _ _ _ _=>L2.el1 (fun _=>rfl))
  have F_Node_init:=zaz (st:=zbu) l_Node_init c_Node_init_cd
  have B0_Node_init:Binds K _ ["self", "above", "chooser", "room"] []:=zeu (fd:=PySem.W.fnOf "__init__" "Node.__init__" (zam zbu) (zal zbu) (zac zbu) (.ref dt_Node_init) kV_Node_init dc_Node_init pm_Node_init an_Node_init co_Node_init ct_Node_init) rfl dk_Node_init (fun us hl=>match us,(show us.length = 4 by simpa using hl) with | [_,_,_,_],_=>⟨_,rfl,rfl⟩)
  have B1_Node_init:Binds K _ ["self", "above", "chooser", "room"] [.none]:=zeu (fd:=PySem.W.fnOf "__init__" "Node.__init__" (zam zbu) (zal zbu) (zac zbu) (.ref dt_Node_init) kV_Node_init dc_Node_init pm_Node_init an_Node_init co_Node_init ct_Node_init) rfl dk_Node_init (fun us hl=>match us,(show us.length = 3 by simpa using hl) with | [_,_,_],_=>⟨_,rfl,rfl⟩)
  have F_Node_has_children:=zaz (st:=zbj) l_Node_has_children c_Node_has_children_cd
  have B_Node_has_children:=(zat (st:=zbj) l_Node_has_children c_Node_has_children_cd k_Node_has_children).binds (ps:=["self"]) (fun _ _ _ _ _ _=>L2.el1 (fun _=>rfl))
  have F_Node_has_room_for:=zaz (st:=zbk) l_Node_has_room_for c_Node_has_room_for_cd
  have B_Node_has_room_for:=(zat (st:=zbk) l_Node_has_room_for c_Node_has_room_for_cd k_Node_has_room_for).binds (ps:=["self", "length"]) (fun _ _ _ _ _ _=>L2.el2 (fun _ _=>rfl))
  have F_Tree_init:=zaz (st:=zbv) l_Tree_init c_Tree_init_cd
  have B0_Tree_init:Binds K _ ["self", "most", "kind"] []:=zeu (fd:=PySem.W.fnOf "__init__" "Tree.__init__" (zam zbv) (zal zbv) (zac zbv) (.ref dt_Tree_init) kV_Tree_init dc_Tree_init pm_Tree_init an_Tree_init co_Tree_init ct_Tree_init) rfl dk_Tree_init (fun us hl=>match us,(show us.length = 3 by simpa using hl) with | [_,_,_],_=>⟨_,rfl,rfl⟩)
  have B1_Tree_init:Binds K _ ["self", "most", "kind"] [.str (Str.ofString "starts") tk0_Tree_init]:=zeu (fd:=PySem.W.fnOf "__init__" "Tree.__init__" (zam zbv) (zal zbv) (zac zbv) (.ref dt_Tree_init) kV_Tree_init dc_Tree_init pm_Tree_init an_Tree_init co_Tree_init ct_Tree_init) rfl dk_Tree_init (fun us hl=>match us,(show us.length = 2 by simpa using hl) with | [_,_],_=>⟨_,rfl,rfl⟩)
  have F_Tree_check_class:=zaz (st:=zbn) l_Tree_check_class c_Tree_check_class_cd
  have B_Tree_check_class:=(zat (st:=zbn) l_Tree_check_class c_Tree_check_class_cd k_Tree_check_class).binds (ps:=["self", "name"]) (fun _ _ _ _ _ _=>L2.el2 (fun _ _=>rfl))
  have F_Tree_check_leaf:=zaz (st:=zbp) l_Tree_check_leaf c_Tree_check_leaf_cd
  have B_Tree_check_leaf:=(zat (st:=zbp) l_Tree_check_leaf c_Tree_check_leaf_cd k_Tree_check_leaf).binds (ps:=["self", "name"]) (fun _ _ _ _ _ _=>L2.el2 (fun _ _=>rfl))
  have F_Tree_check_place:=zaz (st:=zbo) l_Tree_check_place c_Tree_check_place_cd
  have B_Tree_check_place:=(zat (st:=zbo) l_Tree_check_place c_Tree_check_place_cd k_Tree_check_place).binds (ps:=["self", "under", "kind"]) (fun _ _ _ _ _ _=>L2.el3 (fun _ _ _=>rfl))
  have F_Tree_put:=zaz (st:=zcc) l_Tree_put c_Tree_put_cd
  have B0_Tree_put:Binds K _ ["self", "name", "under", "kind", "share", "room"] []:=zeu (fd:=PySem.W.fnOf "put" "Tree.put" (zam zcc) (zal zcc) (zac zcc) (.ref dt_Tree_put) kV_Tree_put dc_Tree_put pm_Tree_put an_Tree_put co_Tree_put ct_Tree_put) rfl dk_Tree_put (fun us hl=>match us,(show us.length = 6 by simpa using hl) with | [_,_,_,_,_,_],_=>⟨_,rfl,rfl⟩)
  have B1_Tree_put:Binds K _ ["self", "name", "under", "kind", "share", "room"] [.none]:=zeu (fd:=PySem.W.fnOf "put" "Tree.put" (zam zcc) (zal zcc) (zac zcc) (.ref dt_Tree_put) kV_Tree_put dc_Tree_put pm_Tree_put an_Tree_put co_Tree_put ct_Tree_put) rfl dk_Tree_put (fun us hl=>match us,(show us.length = 5 by simpa using hl) with | [_,_,_,_,_],_=>⟨_,rfl,rfl⟩)
  have F_Tree_take:=zaz (st:=zdt) l_Tree_take c_Tree_take_cd
  have B_Tree_take:=(zat (st:=zdt) l_Tree_take c_Tree_take_cd k_Tree_take).binds (ps:=["self", "name"]) (fun _ _ _ _ _ _=>L2.el2 (fun _ _=>rfl))
  have F_Tree_come:=zaz (st:=zdu) l_Tree_come c_Tree_come_cd
  have B_Tree_come:=(zat (st:=zdu) l_Tree_come c_Tree_come_cd k_Tree_come).binds (ps:=["self", "name", "length"]) (fun _ _ _ _ _ _=>L2.el3 (fun _ _ _=>rfl))
  have F_Tree_now:=zaz (st:=zel) l_Tree_now c_Tree_now_cd
  have B_Tree_now:=(zat (st:=zel) l_Tree_now c_Tree_now_cd k_Tree_now).binds (ps:=["self"]) (fun _ _ _ _ _ _=>L2.el1 (fun _=>rfl))
  have F_Tree_goings:=zaz (st:=zcz) l_Tree_goings c_Tree_goings_cd
  have B_Tree_goings:=(zat (st:=zcz) l_Tree_goings c_Tree_goings_cd k_Tree_goings).binds (ps:=["self"]) (fun _ _ _ _ _ _=>L2.el1 (fun _=>rfl))
  have F_Tree_waiting:=zaz (st:=zcm) l_Tree_waiting c_Tree_waiting_cd
  have B_Tree_waiting:=(zat (st:=zcm) l_Tree_waiting c_Tree_waiting_cd k_Tree_waiting).binds (ps:=["self", "name"]) (fun _ _ _ _ _ _=>L2.el2 (fun _ _=>rfl))
  have F_Tree_way:=zaz (st:=zem) l_Tree_way c_Tree_way_cd
  have B_Tree_way:=(zat (st:=zem) l_Tree_way c_Tree_way_cd k_Tree_way).binds (ps:=["self", "name"]) (fun _ _ _ _ _ _=>L2.el2 (fun _ _=>rfl))
  have F_Tree_below:=zaz (st:=zdk) l_Tree_below c_Tree_below_cd
  have B_Tree_below:=(zat (st:=zdk) l_Tree_below c_Tree_below_cd k_Tree_below).binds (ps:=["self", "name"]) (fun _ _ _ _ _ _=>L2.el2 (fun _ _=>rfl))
  have F_Tree_chooser_over:=zaz (st:=zbl) l_Tree_chooser_over c_Tree_chooser_over_cd
  have B_Tree_chooser_over:=(zat (st:=zbl) l_Tree_chooser_over c_Tree_chooser_over_cd k_Tree_chooser_over).binds (ps:=["self", "name"]) (fun _ _ _ _ _ _=>L2.el2 (fun _ _=>rfl))
  have F_Tree_from_road:=zaz (st:=zbw) l_Tree_from_road c_Tree_from_road_cd
  have B_Tree_from_road:=(zat (st:=zbw) l_Tree_from_road c_Tree_from_road_cd k_Tree_from_road).binds (ps:=["self", "name"]) (fun _ _ _ _ _ _=>L2.el2 (fun _ _=>rfl))
  have T:Txt K mg c_NoName c_Taken c_NoClass c_NoPlace c_NoShare c_NoLength c_Members c_Chooser c_Starts c_Rounds c_Node c_Tree:=⟨PySem.W.mg_of X G b_NoName,xc_NoName,kp_NoName,ex_NoName,PySem.W.mg_of X G b_Taken,xc_Taken,kp_Taken,ex_Taken,PySem.W.mg_of X G b_NoClass,xc_NoClass,kp_NoClass,ex_NoClass,PySem.W.mg_of X G b_NoPlace,xc_NoPlace,kp_NoPlace,ex_NoPlace,PySem.W.mg_of X G b_NoShare,xc_NoShare,kp_NoShare,ex_NoShare,PySem.W.mg_of X G b_NoLength,xc_NoLength,kp_NoLength,ex_NoLength,s_NoName_NoName,zfy,s_NoName_Taken,zbz n_NoName_Taken ci_Taken ti_Taken s_NoName_Taken,s_NoName_NoClass,zbz n_NoName_NoClass ci_NoClass ti_NoClass s_NoName_NoClass,s_NoName_NoPlace,zbz n_NoName_NoPlace ci_NoPlace ti_NoPlace s_NoName_NoPlace,s_NoName_NoShare,zbz n_NoName_NoShare ci_NoShare ti_NoShare s_NoName_NoShare,s_NoName_NoLength,zbz n_NoName_NoLength ci_NoLength ti_NoLength s_NoName_NoLength,zkm v_NoName_VE,s_Taken_NoName,zbz n_Taken_NoName ci_NoName ti_NoName s_Taken_NoName,s_Taken_Taken,zfy,s_Taken_NoClass,zbz n_Taken_NoClass ci_NoClass ti_NoClass s_Taken_NoClass,s_Taken_NoPlace,zbz n_Taken_NoPlace ci_NoPlace ti_NoPlace s_Taken_NoPlace,s_Taken_NoShare,zbz n_Taken_NoShare ci_NoShare ti_NoShare s_Taken_NoShare,s_Taken_NoLength,zbz n_Taken_NoLength ci_NoLength ti_NoLength s_Taken_NoLength,zkm v_Taken_VE,s_NoClass_NoName,zbz n_NoClass_NoName ci_NoName ti_NoName s_NoClass_NoName,s_NoClass_Taken,zbz n_NoClass_Taken ci_Taken ti_Taken s_NoClass_Taken,s_NoClass_NoClass,zfy,s_NoClass_NoPlace,zbz n_NoClass_NoPlace ci_NoPlace ti_NoPlace s_NoClass_NoPlace,s_NoClass_NoShare,zbz n_NoClass_NoShare ci_NoShare ti_NoShare s_NoClass_NoShare,s_NoClass_NoLength,zbz n_NoClass_NoLength ci_NoLength ti_NoLength s_NoClass_NoLength,zkm v_NoClass_VE,s_NoPlace_NoName,zbz n_NoPlace_NoName ci_NoName ti_NoName s_NoPlace_NoName,s_NoPlace_Taken,zbz n_NoPlace_Taken ci_Taken ti_Taken s_NoPlace_Taken,s_NoPlace_NoClass,zbz n_NoPlace_NoClass ci_NoClass ti_NoClass s_NoPlace_NoClass,s_NoPlace_NoPlace,zfy,s_NoPlace_NoShare,zbz n_NoPlace_NoShare ci_NoShare ti_NoShare s_NoPlace_NoShare,s_NoPlace_NoLength,zbz n_NoPlace_NoLength ci_NoLength ti_NoLength s_NoPlace_NoLength,zkm v_NoPlace_VE,s_NoShare_NoName,zbz n_NoShare_NoName ci_NoName ti_NoName s_NoShare_NoName,s_NoShare_Taken,zbz n_NoShare_Taken ci_Taken ti_Taken s_NoShare_Taken,s_NoShare_NoClass,zbz n_NoShare_NoClass ci_NoClass ti_NoClass s_NoShare_NoClass,s_NoShare_NoPlace,zbz n_NoShare_NoPlace ci_NoPlace ti_NoPlace s_NoShare_NoPlace,s_NoShare_NoShare,zfy,s_NoShare_NoLength,zbz n_NoShare_NoLength ci_NoLength ti_NoLength s_NoShare_NoLength,zkm v_NoShare_VE,s_NoLength_NoName,zbz n_NoLength_NoName ci_NoName ti_NoName s_NoLength_NoName,s_NoLength_Taken,zbz n_NoLength_Taken ci_Taken ti_Taken s_NoLength_Taken,s_NoLength_NoClass,zbz n_NoLength_NoClass ci_NoClass ti_NoClass s_NoLength_NoClass,s_NoLength_NoPlace,zbz n_NoLength_NoPlace ci_NoPlace ti_NoPlace s_NoLength_NoPlace,s_NoLength_NoShare,zbz n_NoLength_NoShare ci_NoShare ti_NoShare s_NoLength_NoShare,s_NoLength_NoLength,zfy,zkm v_NoLength_VE,ic_Starts,io_Starts,zbz n_Starts_Chooser ci_Chooser ti_Chooser s_Starts_Chooser,ic_Rounds,io_Rounds,zbz n_Rounds_Chooser ci_Chooser ti_Chooser s_Rounds_Chooser,kg,kt,PySem.W.mg_none_of X G z1,PySem.W.mg_none_of X G z2,PySem.W.mg_none_of X G z3,PySem.W.mg_none_of X G z4,PySem.W.mg_none_of X G z5,PySem.W.mg_none_of X G z6,PySem.W.mg_none_of X G z7,PySem.W.mg_none_of X G z8,PySem.W.mg_none_of X G z9,PySem.W.mg_none_of X G z10,⟨_,PySem.W.mg_of X G v_GREATEST_SHARE⟩,⟨_,PySem.W.mg_of X G v_GREATEST_LENGTH⟩,⟨_,PySem.W.mg_of X G v_LETTERS⟩,⟨_,PySem.W.mg_of X G v_LONGEST_NAME⟩,⟨_,PySem.W.mg_of X G v_ROAD⟩,⟨_,PySem.W.mg_of X G v_INNER_KINDS,fun H=>.inr ⟨_,_,_,w_INNER_KINDS,rfl,rfl,(by show 2<=sizeLine; decide),.cons ⟨_,rfl⟩ (.cons ⟨_,rfl⟩ (.nil))⟩⟩,⟨_,PySem.W.mg_of X G v_LONGEST_WAY⟩,⟨_,PySem.W.mg_of X G v_LEAF⟩,⟨_,_,F1,F1.binds (ps:=["one", "other"]) (fun _ _ _ _ _ _=>L2.el2 (fun _ _=>rfl)),PySem.W.mg_of X G a1⟩,⟨_,_,F2,F2.binds (ps:=["top", "bottom"]) (fun _ _ _ _ _ _=>L2.el2 (fun _ _=>rfl)),PySem.W.mg_of X G a2⟩,⟨_,_,F3,F3.binds (ps:=["one", "other"]) (fun _ _ _ _ _ _=>L2.el2 (fun _ _=>rfl)),PySem.W.mg_of X G a3⟩,⟨_,_,F4,F4.binds (ps:=["one", "other"]) (fun _ _ _ _ _ _=>L2.el2 (fun _ _=>rfl)),PySem.W.mg_of X G a4⟩,⟨_,_,F5,F5.binds (ps:=["share"]) (fun _ _ _ _ _ _=>L2.el1 (fun _=>rfl)),PySem.W.mg_of X G a5⟩,⟨_,_,F6,F6.binds (ps:=["most"]) (fun _ _ _ _ _ _=>L2.el1 (fun _=>rfl)),PySem.W.mg_of X G a6⟩,⟨_,_,F7,F7.binds (ps:=["text"]) (fun _ _ _ _ _ _=>L2.el1 (fun _=>rfl)),PySem.W.mg_of X G a7⟩,⟨_,_,F8,F8.binds (ps:=["kind", "most"]) (fun _ _ _ _ _ _=>L2.el2 (fun _ _=>rfl)),PySem.W.mg_of X G a8⟩,⟨_,_,F9,F9.binds (ps:=["_law_script", "_law_k"]) (fun _ _ _ _ _ _=>L2.el2 (fun _ _=>rfl)),PySem.W.mg_of X G a9⟩,⟨_,_,F10,F10.binds (ps:=["_law_cell", "_law_many"]) (fun _ _ _ _ _ _=>L2.el2 (fun _ _=>rfl)),PySem.W.mg_of X G a10⟩,⟨_,_,F11,F11.binds (ps:=["_law_found"]) (fun _ _ _ _ _ _=>L2.el1 (fun _=>rfl)),PySem.W.mg_of X G a11⟩,⟨_,_,F12,F12.binds (ps:=["_law_world", "_law_xs"]) (fun _ _ _ _ _ _=>L2.el2 (fun _ _=>rfl)),PySem.W.mg_of X G a12⟩,⟨_,_,F13,F13.binds (ps:=["_law_tree", "_law_name_here", "_law_length_here"]) (fun _ _ _ _ _ _=>L2.el3 (fun _ _ _=>rfl)),PySem.W.mg_of X G a13⟩,⟨_,_,F14,F14.binds (ps:=["_law_tree", "_law_name_here"]) (fun _ _ _ _ _ _=>L2.el2 (fun _ _=>rfl)),PySem.W.mg_of X G a14⟩,⟨_,_,F15,F15.binds (ps:=["_law_tree", "_law_name_here"]) (fun _ _ _ _ _ _=>L2.el2 (fun _ _=>rfl)),PySem.W.mg_of X G a15⟩,⟨_,_,F16,F16.binds (ps:=["_law_world", "_law_name_here"]) (fun _ _ _ _ _ _=>L2.el2 (fun _ _=>rfl)),PySem.W.mg_of X G a16⟩,⟨_,_,F17,F17.binds (ps:=["_law_tree", "_law_world", "_law_name_here", "_law_length_here", "_law_counted"]) (fun _ _ _ _ _ _=>L2.el5 (fun _ _ _ _ _=>rfl)),PySem.W.mg_of X G a17⟩,⟨_,_,F18,F18.binds (ps:=["_law_world", "_law_name_here"]) (fun _ _ _ _ _ _=>L2.el2 (fun _ _=>rfl)),PySem.W.mg_of X G a18⟩,⟨_,_,F19,F19.binds (ps:=["_law_tree", "_law_world", "_law_xs"]) (fun _ _ _ _ _ _=>L2.el3 (fun _ _ _=>rfl)),PySem.W.mg_of X G a19⟩,⟨_,_,F20,F20.binds (ps:=["_law_most", "_law_xs"]) (fun _ _ _ _ _ _=>L2.el2 (fun _ _=>rfl)),PySem.W.mg_of X G a20⟩,⟨_,_,F21,F21.binds (ps:=["_law_tree", "_law_world", "_law_xs", "_law_counted"]) (fun _ _ _ _ _ _=>L2.el4 (fun _ _ _ _=>rfl)),PySem.W.mg_of X G a21⟩,⟨_,_,F22,F22.binds (ps:=["_law_tree", "_law_world", "_law_name_here"]) (fun _ _ _ _ _ _=>L2.el3 (fun _ _ _=>rfl)),PySem.W.mg_of X G a22⟩,PySem.W.mg_of X G b_Members,⟨pg_Members,hd_Members,po_Members,sa_Members⟩,na_Members_shares,⟨⟨_,_,F_Members_init,⟨mk_Members,a_Members_init,i_Members_init_fn,kc_Members⟩,(fun dvs h=>by simp only [List.mem_cons,List.not_mem_nil,or_false] at h; subst h; exact BindsV.nil B_Members_init)⟩⟩,⟨⟨_,_,F_Members_check_name,⟨a_Members_check_name,i_Members_check_name_fn,k_Members_check_name⟩,(fun dvs h=>by simp only [List.mem_cons,List.not_mem_nil,or_false] at h; subst h; exact BindsV.nil B_Members_check_name)⟩⟩,⟨⟨_,_,F_Members_put,⟨a_Members_put,i_Members_put_fn,k_Members_put⟩,(fun dvs h=>by simp only [List.mem_cons,List.not_mem_nil,or_false] at h; subst h; exact BindsV.nil B_Members_put)⟩⟩,⟨⟨_,_,F_Members_take,⟨a_Members_take,i_Members_take_fn,k_Members_take⟩,(fun dvs h=>by simp only [List.mem_cons,List.not_mem_nil,or_false] at h; subst h; exact BindsV.nil B_Members_take)⟩⟩,⟨⟨_,_,F_Members_names,⟨a_Members_names,i_Members_names_fn,k_Members_names⟩,(fun dvs h=>by simp only [List.mem_cons,List.not_mem_nil,or_false] at h; subst h; exact BindsV.nil B_Members_names)⟩⟩,PySem.W.mg_of X G b_Chooser,PySem.W.mg_of X G b_Starts,⟨pg_Starts,hd_Starts,po_Starts,sa_Starts⟩,na_Starts_reached,na_Starts_tags,na_Starts_greatest_steps,na_Starts_most,na_Starts_members,na_Starts_chosen,⟨⟨_,_,F_Starts_init,⟨mk_Starts,a_Starts_init,i_Starts_init_fn,kc_Starts⟩,(fun dvs h=>by simp only [List.mem_cons,List.not_mem_nil,or_false] at h; subst h; exact BindsV.nil B_Starts_init)⟩⟩,⟨⟨_,_,F_Starts_enter,⟨a_Starts_enter,i_Starts_enter_fn,k_Starts_enter⟩,(fun dvs h=>by simp only [List.mem_cons,List.not_mem_nil,or_false] at h; subst h; exact BindsV.nil B_Starts_enter)⟩⟩,⟨⟨_,_,F_Starts_leave,⟨a_Starts_leave,i_Starts_leave_fn,k_Starts_leave⟩,(fun dvs h=>by simp only [List.mem_cons,List.not_mem_nil,or_false] at h; subst h; exact BindsV.nil B_Starts_leave)⟩⟩,⟨⟨_,_,F_Starts_stands,⟨a_Starts_stands,i_Starts_stands_fn,k_Starts_stands⟩,(fun dvs h=>by simp only [List.mem_cons,List.not_mem_nil,or_false] at h; subst h; exact BindsV.nil B_Starts_stands)⟩⟩,⟨⟨_,_,F_Starts_up_Chooser,⟨⟨_,r_Starts_up_Chooser,q_Starts_up_Chooser⟩,g_Starts_up_Chooser,k_Starts_up_Chooser⟩,BindsV.nil B_Starts_up_Chooser⟩⟩,⟨⟨_,_,F_Starts_put,⟨a_Starts_put,i_Starts_put_fn,k_Starts_put⟩,(fun dvs h=>by simp only [List.mem_cons,List.not_mem_nil,or_false] at h; subst h; exact BindsV.nil B_Starts_put)⟩⟩,⟨⟨_,_,F_Starts_take,⟨a_Starts_take,i_Starts_take_fn,k_Starts_take⟩,(fun dvs h=>by simp only [List.mem_cons,List.not_mem_nil,or_false] at h; subst h; exact BindsV.nil B_Starts_take)⟩⟩,⟨⟨_,_,F_Starts_names,⟨a_Starts_names,i_Starts_names_fn,k_Starts_names⟩,(fun dvs h=>by simp only [List.mem_cons,List.not_mem_nil,or_false] at h; subst h; exact BindsV.nil B_Starts_names)⟩⟩,PySem.W.mg_of X G b_Rounds,⟨pg_Rounds,hd_Rounds,po_Rounds,sa_Rounds⟩,na_Rounds_queue,na_Rounds_rests,na_Rounds_turn,na_Rounds_most,na_Rounds_members,na_Rounds_chosen,⟨⟨_,_,F_Rounds_init,⟨mk_Rounds,a_Rounds_init,i_Rounds_init_fn,kc_Rounds⟩,(fun dvs h=>by simp only [List.mem_cons,List.not_mem_nil,or_false] at h; subst h; exact BindsV.nil B_Rounds_init)⟩⟩,⟨⟨_,_,F_Rounds_enter,⟨a_Rounds_enter,i_Rounds_enter_fn,k_Rounds_enter⟩,(fun dvs h=>by simp only [List.mem_cons,List.not_mem_nil,or_false] at h; subst h; exact BindsV.nil B_Rounds_enter)⟩⟩,⟨⟨_,_,F_Rounds_leave,⟨a_Rounds_leave,i_Rounds_leave_fn,k_Rounds_leave⟩,(fun dvs h=>by simp only [List.mem_cons,List.not_mem_nil,or_false] at h; subst h; exact BindsV.nil B_Rounds_leave)⟩⟩,⟨⟨_,_,F_Rounds_rest,⟨a_Rounds_rest,i_Rounds_rest_fn,k_Rounds_rest⟩,(fun dvs h=>by simp only [List.mem_cons,List.not_mem_nil,or_false] at h; subst h; exact BindsV.nil B_Rounds_rest)⟩⟩,⟨⟨_,_,F_Rounds_up_Chooser,⟨⟨_,r_Rounds_up_Chooser,q_Rounds_up_Chooser⟩,g_Rounds_up_Chooser,k_Rounds_up_Chooser⟩,BindsV.nil B_Rounds_up_Chooser⟩⟩,⟨⟨_,_,F_Rounds_put,⟨a_Rounds_put,i_Rounds_put_fn,k_Rounds_put⟩,(fun dvs h=>by simp only [List.mem_cons,List.not_mem_nil,or_false] at h; subst h; exact BindsV.nil B_Rounds_put)⟩⟩,⟨⟨_,_,F_Rounds_take,⟨a_Rounds_take,i_Rounds_take_fn,k_Rounds_take⟩,(fun dvs h=>by simp only [List.mem_cons,List.not_mem_nil,or_false] at h; subst h; exact BindsV.nil B_Rounds_take)⟩⟩,⟨⟨_,_,F_Rounds_names,⟨a_Rounds_names,i_Rounds_names_fn,k_Rounds_names⟩,(fun dvs h=>by simp only [List.mem_cons,List.not_mem_nil,or_false] at h; subst h; exact BindsV.nil B_Rounds_names)⟩⟩,PySem.W.mg_of X G b_Node,⟨pg_Node,hd_Node,po_Node,sa_Node⟩,na_Node_above,na_Node_chooser,na_Node_room,na_Node_bucket,na_Node_queue,⟨⟨_,_,F_Node_init,⟨mk_Node,a_Node_init,i_Node_init_fn,kc_Node⟩,(fun dvs h=>by simp only [List.mem_cons,List.not_mem_nil,or_false] at h; rcases h with rfl | rfl <;> first | exact ⟨_,.nil,B0_Node_init⟩ | exact ⟨_,(.cons rfl .nil),B1_Node_init⟩)⟩⟩,⟨⟨_,_,F_Node_has_children,⟨a_Node_has_children,i_Node_has_children_fn,k_Node_has_children⟩,(fun dvs h=>by simp only [List.mem_cons,List.not_mem_nil,or_false] at h; subst h; exact BindsV.nil B_Node_has_children)⟩⟩,⟨⟨_,_,F_Node_has_room_for,⟨a_Node_has_room_for,i_Node_has_room_for_fn,k_Node_has_room_for⟩,(fun dvs h=>by simp only [List.mem_cons,List.not_mem_nil,or_false] at h; subst h; exact BindsV.nil B_Node_has_room_for)⟩⟩,PySem.W.mg_of X G b_Tree,⟨pg_Tree,hd_Tree,po_Tree,sa_Tree⟩,na_Tree_most,na_Tree_nodes,na_Tree_time,na_Tree_free,na_Tree_counted,na_Tree_gone,⟨⟨_,_,F_Tree_init,⟨mk_Tree,a_Tree_init,i_Tree_init_fn,kc_Tree⟩,(fun dvs h=>by simp only [List.mem_cons,List.not_mem_nil,or_false] at h; rcases h with rfl | rfl <;> first | exact ⟨_,.nil,B0_Tree_init⟩ | exact ⟨_,(.cons ⟨_,rfl⟩ .nil),B1_Tree_init⟩)⟩⟩,⟨⟨_,_,F_Tree_check_class,⟨a_Tree_check_class,i_Tree_check_class_fn,k_Tree_check_class⟩,(fun dvs h=>by simp only [List.mem_cons,List.not_mem_nil,or_false] at h; subst h; exact BindsV.nil B_Tree_check_class)⟩⟩,⟨⟨_,_,F_Tree_check_leaf,⟨a_Tree_check_leaf,i_Tree_check_leaf_fn,k_Tree_check_leaf⟩,(fun dvs h=>by simp only [List.mem_cons,List.not_mem_nil,or_false] at h; subst h; exact BindsV.nil B_Tree_check_leaf)⟩⟩,⟨⟨_,_,F_Tree_check_place,⟨a_Tree_check_place,i_Tree_check_place_fn,k_Tree_check_place⟩,(fun dvs h=>by simp only [List.mem_cons,List.not_mem_nil,or_false] at h; subst h; exact BindsV.nil B_Tree_check_place)⟩⟩,⟨⟨_,_,F_Tree_put,⟨a_Tree_put,i_Tree_put_fn,k_Tree_put⟩,(fun dvs h=>by simp only [List.mem_cons,List.not_mem_nil,or_false] at h; rcases h with rfl | rfl <;> first | exact ⟨_,.nil,B0_Tree_put⟩ | exact ⟨_,(.cons rfl .nil),B1_Tree_put⟩)⟩⟩,⟨⟨_,_,F_Tree_take,⟨a_Tree_take,i_Tree_take_fn,k_Tree_take⟩,(fun dvs h=>by simp only [List.mem_cons,List.not_mem_nil,or_false] at h; subst h; exact BindsV.nil B_Tree_take)⟩⟩,⟨⟨_,_,F_Tree_come,⟨a_Tree_come,i_Tree_come_fn,k_Tree_come⟩,(fun dvs h=>by simp only [List.mem_cons,List.not_mem_nil,or_false] at h; subst h; exact BindsV.nil B_Tree_come)⟩⟩,⟨⟨_,_,F_Tree_now,⟨a_Tree_now,i_Tree_now_fn,k_Tree_now⟩,(fun dvs h=>by simp only [List.mem_cons,List.not_mem_nil,or_false] at h; subst h; exact BindsV.nil B_Tree_now)⟩⟩,⟨⟨_,_,F_Tree_goings,⟨a_Tree_goings,i_Tree_goings_fn,k_Tree_goings⟩,(fun dvs h=>by simp only [List.mem_cons,List.not_mem_nil,or_false] at h; subst h; exact BindsV.nil B_Tree_goings)⟩⟩,⟨⟨_,_,F_Tree_waiting,⟨a_Tree_waiting,i_Tree_waiting_fn,k_Tree_waiting⟩,(fun dvs h=>by simp only [List.mem_cons,List.not_mem_nil,or_false] at h; subst h; exact BindsV.nil B_Tree_waiting)⟩⟩,⟨⟨_,_,F_Tree_way,⟨a_Tree_way,i_Tree_way_fn,k_Tree_way⟩,(fun dvs h=>by simp only [List.mem_cons,List.not_mem_nil,or_false] at h; subst h; exact BindsV.nil B_Tree_way)⟩⟩,⟨⟨_,_,F_Tree_below,⟨a_Tree_below,i_Tree_below_fn,k_Tree_below⟩,(fun dvs h=>by simp only [List.mem_cons,List.not_mem_nil,or_false] at h; subst h; exact BindsV.nil B_Tree_below)⟩⟩,⟨⟨_,_,F_Tree_chooser_over,⟨a_Tree_chooser_over,i_Tree_chooser_over_fn,k_Tree_chooser_over⟩,(fun dvs h=>by simp only [List.mem_cons,List.not_mem_nil,or_false] at h; subst h; exact BindsV.nil B_Tree_chooser_over)⟩⟩,⟨⟨_,_,F_Tree_from_road,⟨a_Tree_from_road,i_Tree_from_road_fn,k_Tree_from_road⟩,(fun dvs h=>by simp only [List.mem_cons,List.not_mem_nil,or_false] at h; subst h; exact BindsV.nil B_Tree_from_road)⟩⟩⟩
  exact ⟨PySem.W.fnOf "law" "law" (zam s_law) (zal s_law) (zac s_law) .none kV23 dc23 pm23 an23 cd23 ct23,fun s v=>.of_eq rfl,fun base _ _=>zyl (zat (st:=s_law) l23 c23 k23) T⟩
theorem walk {l:PySem.W.OpenLaw} {q:Program} {loose:List Str} {XP:(Str->Option Value)->Heap->Prop} {YP:World->Heap->Prop} {d:DefRec} {K:Params->PySem.W.Frag} (hn:l.most=some 63) (hdf:d.params.defaults = [])
    (hY:∀ (w:World) (h:Heap),YP w h->(K w.params).In h)
    (F:∀ (w:World) (mg:Str->Option Value) (fa:Addr) (h:Heap),(K w.params).In h->h.Ns mainGlobals mg->mg d.name=some (.ref fa) ->
      ∃ fd:FuncData,(∀ (s:Shared) (u:Value),BindsTo s fd ⟨[u],[]⟩ [("_law_script", u)])/\∀ base:Heap,(K w.params).In base->base.Ns mainGlobals mg->FnOk l.prog w (K w.params) mg base CX0 10 fa fd ["_law_script"] (spLaw (K w.params))) :
    PySem.W.WalkO q loose XP YP l.row.toRowW d [] (fun f vs=>PySem.call f vs) :=
  L2.walk_of (n:=63) (k:=10) (x := "_law_script") (CX:=fun _=>CX0) (sp:=fun w=>spLaw (K w.params)) hn (by decide) hdf ⟨rfl,by decide,by decide⟩ hY F (fun _ _ a ns hl _ hS=>⟨a,ns,rfl,hS,hl,fun _=>rfl⟩) fun _ _ _ _ _ z=>z
end K62
theorem PySem.W.Fast.te5195816965360079053 : True := trivial
theorem PySem.W.Fast.tw7749276571435858764 : True := trivial
theorem PySem.W.Fast.tw8614397292083026791 : True := trivial
theorem PySem.W.Fast.tw8100060569815402196 : True := trivial
theorem PySem.W.Fast.tw164150113510682941 : True := trivial
theorem PySem.W.Fast.tw13138214256248157176 : True := trivial
theorem PySem.W.Fast.tw15461119281645792316 : True := trivial
theorem PySem.W.Fast.tw457211432129385105 : True := trivial
theorem PySem.W.Fast.tw9964020425842697500 : True := trivial
theorem PySem.W.Fast.tw17425197397188762867 : True := trivial
theorem PySem.W.Fast.tw12239118208207161464 : True := trivial
theorem PySem.W.Fast.tw6783870566455481234 : True := trivial
theorem PySem.W.Fast.tw6209444445383436993 : True := trivial
theorem PySem.W.Fast.tw7369289137216257762 : True := trivial
theorem PySem.W.Fast.tw12946985234478547896 : True := trivial
theorem PySem.W.Fast.tw14787660522668230870 : True := trivial
theorem PySem.W.Fast.tw15785058663102837148 : True := trivial
theorem PySem.W.Fast.tw5087453983968144261 : True := trivial
theorem PySem.W.Fast.tw11095854919060553069 : True := trivial
theorem PySem.W.Fast.tw6333726474851846455 : True := trivial
theorem PySem.W.Fast.tw3631938466105964436 : True := trivial
theorem PySem.W.Fast.tw2265183851778747512 : True := trivial
theorem PySem.W.Fast.tw10123998090696608648 : True := trivial
theorem PySem.W.Fast.tw1723585003411032729 : True := trivial
theorem PySem.W.Fast.tw7454116664405876345 : True := trivial
theorem PySem.W.Fast.tw12037085549775689894 : True := trivial
theorem PySem.W.Fast.tw10810060945829071803 : True := trivial
theorem PySem.W.Fast.tw9894715916428797415 : True := trivial
theorem PySem.W.Fast.tw7054424609119139949 : True := trivial
theorem PySem.W.Fast.tw18198650599851935761 : True := trivial
theorem PySem.W.Fast.tw12195088538829153232 : True := trivial
theorem PySem.W.Fast.tw8815556154316491152 : True := trivial
theorem PySem.W.Fast.tw1296165816547708579 : True := trivial
theorem PySem.W.Fast.tw12627496727330933615 : True := trivial
theorem PySem.W.Fast.tw6499681467473720846 : True := trivial
theorem PySem.W.Fast.tw1359983109991636513 : True := trivial
theorem PySem.W.Fast.tw3444118417564032287 : True := trivial
theorem PySem.W.Fast.tw17870518278662576595 : True := trivial
theorem PySem.W.Fast.tw2655938774900039527 : True := trivial
theorem PySem.W.Fast.tw15271223121933042330 : True := trivial
open PySem PySem.W PyProof.Rows
set_option maxRecDepth 100000 in
set_option maxHeartbeats 0 in
theorem PySem.Challenge.cw_sharewheel_k62_what_came_and_waits_holds : PySem.Challenge.rw_sharewheel_k62_what_came_and_waits.Holds := by
  w_on; o_law; k_head; (case hw=>w_witness2)
  k_fill
  refine K62.walk (l:=PySem.Challenge.rw_sharewheel_k62_what_came_and_waits) rfl rfl (fun w h Y=>PySem.W.kIn_of Y) ?F
  case F =>
    intro w mg fa h KX G hmg
    refine' K62.all_mk KX G hmg ?b_NoName ?hd_NoName ?ga_NoName ?gn_NoName ?sa_NoName ?cl_NoName ?be_NoName ?ob_NoName ?kp_NoName ?ci_NoName ?ti_NoName ?ex_NoName ?b_Taken ?hd_Taken ?ga_Taken ?gn_Taken ?sa_Taken ?cl_Taken ?be_Taken ?ob_Taken ?kp_Taken ?ci_Taken ?ti_Taken ?ex_Taken ?b_NoClass ?hd_NoClass ?ga_NoClass ?gn_NoClass ?sa_NoClass ?cl_NoClass ?be_NoClass ?ob_NoClass ?kp_NoClass ?ci_NoClass ?ti_NoClass ?ex_NoClass ?b_NoPlace ?hd_NoPlace ?ga_NoPlace ?gn_NoPlace ?sa_NoPlace ?cl_NoPlace ?be_NoPlace ?ob_NoPlace ?kp_NoPlace ?ci_NoPlace ?ti_NoPlace ?ex_NoPlace ?b_NoShare ?hd_NoShare ?ga_NoShare ?gn_NoShare ?sa_NoShare ?cl_NoShare ?be_NoShare ?ob_NoShare ?kp_NoShare ?ci_NoShare ?ti_NoShare ?ex_NoShare ?b_NoLength ?hd_NoLength ?ga_NoLength ?gn_NoLength ?sa_NoLength ?cl_NoLength ?be_NoLength ?ob_NoLength ?kp_NoLength ?ci_NoLength ?ti_NoLength ?ex_NoLength ?kg ?kt ?s_NoName_NoName ?s_NoName_Taken ?n_NoName_Taken ?s_NoName_NoClass ?n_NoName_NoClass ?s_NoName_NoPlace ?n_NoName_NoPlace ?s_NoName_NoShare ?n_NoName_NoShare ?s_NoName_NoLength ?n_NoName_NoLength ?v_NoName_VE ?s_Taken_NoName ?n_Taken_NoName ?s_Taken_Taken ?s_Taken_NoClass ?n_Taken_NoClass ?s_Taken_NoPlace ?n_Taken_NoPlace ?s_Taken_NoShare ?n_Taken_NoShare ?s_Taken_NoLength ?n_Taken_NoLength ?v_Taken_VE ?s_NoClass_NoName ?n_NoClass_NoName ?s_NoClass_Taken ?n_NoClass_Taken ?s_NoClass_NoClass ?s_NoClass_NoPlace ?n_NoClass_NoPlace ?s_NoClass_NoShare ?n_NoClass_NoShare ?s_NoClass_NoLength ?n_NoClass_NoLength ?v_NoClass_VE ?s_NoPlace_NoName ?n_NoPlace_NoName ?s_NoPlace_Taken ?n_NoPlace_Taken ?s_NoPlace_NoClass ?n_NoPlace_NoClass ?s_NoPlace_NoPlace ?s_NoPlace_NoShare ?n_NoPlace_NoShare ?s_NoPlace_NoLength ?n_NoPlace_NoLength ?v_NoPlace_VE ?s_NoShare_NoName ?n_NoShare_NoName ?s_NoShare_Taken ?n_NoShare_Taken ?s_NoShare_NoClass ?n_NoShare_NoClass ?s_NoShare_NoPlace ?n_NoShare_NoPlace ?s_NoShare_NoShare ?s_NoShare_NoLength ?n_NoShare_NoLength ?v_NoShare_VE ?s_NoLength_NoName ?n_NoLength_NoName ?s_NoLength_Taken ?n_NoLength_Taken ?s_NoLength_NoClass ?n_NoLength_NoClass ?s_NoLength_NoPlace ?n_NoLength_NoPlace ?s_NoLength_NoShare ?n_NoLength_NoShare ?s_NoLength_NoLength ?v_NoLength_VE ?a1 ?l1 ?c1 ?k1 ?a2 ?l2 ?c2 ?k2 ?a3 ?l3 ?c3 ?k3 ?a4 ?l4 ?c4 ?k4 ?a5 ?l5 ?c5 ?k5 ?a6 ?l6 ?c6 ?k6 ?a7 ?l7 ?c7 ?k7 ?a8 ?l8 ?c8 ?k8 ?a9 ?l9 ?c9 ?k9 ?a10 ?l10 ?c10 ?k10 ?a11 ?l11 ?c11 ?k11 ?a12 ?l12 ?c12 ?k12 ?a13 ?l13 ?c13 ?k13 ?a14 ?l14 ?c14 ?k14 ?a15 ?l15 ?c15 ?k15 ?a16 ?l16 ?c16 ?k16 ?a17 ?l17 ?c17 ?k17 ?a18 ?l18 ?c18 ?k18 ?a19 ?l19 ?c19 ?k19 ?a20 ?l20 ?c20 ?k20 ?a21 ?l21 ?c21 ?k21 ?a22 ?l22 ?c22 ?k22 ?a23 ?l23 ?c23 ?k23 ?z1 ?z2 ?z3 ?z4 ?z5 ?z6 ?z7 ?z8 ?z9 ?z10 ?v_GREATEST_SHARE ?v_GREATEST_LENGTH ?v_LETTERS ?v_LONGEST_NAME ?v_ROAD ?v_INNER_KINDS ?w_INNER_KINDS ?v_LONGEST_WAY ?v_LEAF ?b_Members ?pg_Members ?hd_Members ?po_Members ?sa_Members ?mk_Members ?kc_Members ?na_Members_shares ?a_Members_init ?i_Members_init_fn ?l_Members_init ?c_Members_init_cd ?k_Members_init ?a_Members_check_name ?i_Members_check_name_fn ?l_Members_check_name ?c_Members_check_name_cd ?k_Members_check_name ?a_Members_put ?i_Members_put_fn ?l_Members_put ?c_Members_put_cd ?k_Members_put ?a_Members_take ?i_Members_take_fn ?l_Members_take ?c_Members_take_cd ?k_Members_take ?a_Members_names ?i_Members_names_fn ?l_Members_names ?c_Members_names_cd ?k_Members_names ?b_Chooser ?b_Starts ?pg_Starts ?hd_Starts ?po_Starts ?sa_Starts ?mk_Starts ?kc_Starts ?na_Starts_reached ?na_Starts_tags ?na_Starts_greatest_steps ?na_Starts_most ?na_Starts_members ?na_Starts_chosen ?a_Starts_init ?i_Starts_init_fn ?l_Starts_init ?c_Starts_init_cd ?k_Starts_init ?a_Starts_enter ?i_Starts_enter_fn ?l_Starts_enter ?c_Starts_enter_cd ?k_Starts_enter ?a_Starts_leave ?i_Starts_leave_fn ?l_Starts_leave ?c_Starts_leave_cd ?k_Starts_leave ?a_Starts_stands ?i_Starts_stands_fn ?l_Starts_stands ?c_Starts_stands_cd ?k_Starts_stands ?a_Starts_up_Chooser ?i_Starts_up_Chooser_fn ?l_Starts_up_Chooser ?c_Starts_up_Chooser_cd ?r_Starts_up_Chooser ?q_Starts_up_Chooser ?g_Starts_up_Chooser ?k_Starts_up_Chooser ?a_Starts_put ?i_Starts_put_fn ?l_Starts_put ?c_Starts_put_cd ?k_Starts_put ?a_Starts_take ?i_Starts_take_fn ?l_Starts_take ?c_Starts_take_cd ?k_Starts_take ?a_Starts_names ?i_Starts_names_fn ?l_Starts_names ?c_Starts_names_cd ?k_Starts_names ?b_Rounds ?pg_Rounds ?hd_Rounds ?po_Rounds ?sa_Rounds ?mk_Rounds ?kc_Rounds ?na_Rounds_queue ?na_Rounds_rests ?na_Rounds_turn ?na_Rounds_most ?na_Rounds_members ?na_Rounds_chosen ?a_Rounds_init ?i_Rounds_init_fn ?l_Rounds_init ?c_Rounds_init_cd ?k_Rounds_init ?a_Rounds_enter ?i_Rounds_enter_fn ?l_Rounds_enter ?c_Rounds_enter_cd ?k_Rounds_enter ?a_Rounds_leave ?i_Rounds_leave_fn ?l_Rounds_leave ?c_Rounds_leave_cd ?k_Rounds_leave ?a_Rounds_rest ?i_Rounds_rest_fn ?l_Rounds_rest ?c_Rounds_rest_cd ?k_Rounds_rest ?a_Rounds_up_Chooser ?i_Rounds_up_Chooser_fn ?l_Rounds_up_Chooser ?c_Rounds_up_Chooser_cd ?r_Rounds_up_Chooser ?q_Rounds_up_Chooser ?g_Rounds_up_Chooser ?k_Rounds_up_Chooser ?a_Rounds_put ?i_Rounds_put_fn ?l_Rounds_put ?c_Rounds_put_cd ?k_Rounds_put ?a_Rounds_take ?i_Rounds_take_fn ?l_Rounds_take ?c_Rounds_take_cd ?k_Rounds_take ?a_Rounds_names ?i_Rounds_names_fn ?l_Rounds_names ?c_Rounds_names_cd ?k_Rounds_names ?b_Node ?pg_Node ?hd_Node ?po_Node ?sa_Node ?mk_Node ?kc_Node ?na_Node_above ?na_Node_chooser ?na_Node_room ?na_Node_bucket ?na_Node_queue ?a_Node_init ?i_Node_init_fn ?l_Node_init ?c_Node_init_cd ?k_Node_init ?dk_Node_init ?a_Node_has_children ?i_Node_has_children_fn ?l_Node_has_children ?c_Node_has_children_cd ?k_Node_has_children ?a_Node_has_room_for ?i_Node_has_room_for_fn ?l_Node_has_room_for ?c_Node_has_room_for_cd ?k_Node_has_room_for ?b_Tree ?pg_Tree ?hd_Tree ?po_Tree ?sa_Tree ?mk_Tree ?kc_Tree ?na_Tree_most ?na_Tree_nodes ?na_Tree_time ?na_Tree_free ?na_Tree_counted ?na_Tree_gone ?a_Tree_init ?i_Tree_init_fn ?l_Tree_init ?c_Tree_init_cd ?k_Tree_init ?dk_Tree_init ?a_Tree_check_class ?i_Tree_check_class_fn ?l_Tree_check_class ?c_Tree_check_class_cd ?k_Tree_check_class ?a_Tree_check_leaf ?i_Tree_check_leaf_fn ?l_Tree_check_leaf ?c_Tree_check_leaf_cd ?k_Tree_check_leaf ?a_Tree_check_place ?i_Tree_check_place_fn ?l_Tree_check_place ?c_Tree_check_place_cd ?k_Tree_check_place ?a_Tree_put ?i_Tree_put_fn ?l_Tree_put ?c_Tree_put_cd ?k_Tree_put ?dk_Tree_put ?a_Tree_take ?i_Tree_take_fn ?l_Tree_take ?c_Tree_take_cd ?k_Tree_take ?a_Tree_come ?i_Tree_come_fn ?l_Tree_come ?c_Tree_come_cd ?k_Tree_come ?a_Tree_now ?i_Tree_now_fn ?l_Tree_now ?c_Tree_now_cd ?k_Tree_now ?a_Tree_goings ?i_Tree_goings_fn ?l_Tree_goings ?c_Tree_goings_cd ?k_Tree_goings ?a_Tree_waiting ?i_Tree_waiting_fn ?l_Tree_waiting ?c_Tree_waiting_cd ?k_Tree_waiting ?a_Tree_way ?i_Tree_way_fn ?l_Tree_way ?c_Tree_way_cd ?k_Tree_way ?a_Tree_below ?i_Tree_below_fn ?l_Tree_below ?c_Tree_below_cd ?k_Tree_below ?a_Tree_chooser_over ?i_Tree_chooser_over_fn ?l_Tree_chooser_over ?c_Tree_chooser_over_cd ?k_Tree_chooser_over ?a_Tree_from_road ?i_Tree_from_road_fn ?l_Tree_from_road ?c_Tree_from_road_cd ?k_Tree_from_road ?ci_Chooser ?ti_Chooser ?ic_Starts ?io_Starts ?s_Starts_Chooser ?n_Starts_Chooser ?ic_Rounds ?io_Rounds ?s_Rounds_Chooser ?n_Rounds_Chooser
    (case b_NoName=>k_is)
    (case hd_NoName=>k_is)
    (case ga_NoName=>k_is)
    (case gn_NoName=>k_is)
    (case sa_NoName=>k_is)
    (case cl_NoName=>k_is)
    (case be_NoName=>k_is)
    (case ob_NoName=>k_is)
    (case kp_NoName=>k_is)
    (case ci_NoName=>k_is)
    (case ti_NoName=>k_is)
    (case ex_NoName=>k_exc)
    (case b_Taken=>k_is)
    (case hd_Taken=>k_is)
    (case ga_Taken=>k_is)
    (case gn_Taken=>k_is)
    (case sa_Taken=>k_is)
    (case cl_Taken=>k_is)
    (case be_Taken=>k_is)
    (case ob_Taken=>k_is)
    (case kp_Taken=>k_is)
    (case ci_Taken=>k_is)
    (case ti_Taken=>k_is)
    (case ex_Taken=>k_exc)
    (case b_NoClass=>k_is)
    (case hd_NoClass=>k_is)
    (case ga_NoClass=>k_is)
    (case gn_NoClass=>k_is)
    (case sa_NoClass=>k_is)
    (case cl_NoClass=>k_is)
    (case be_NoClass=>k_is)
    (case ob_NoClass=>k_is)
    (case kp_NoClass=>k_is)
    (case ci_NoClass=>k_is)
    (case ti_NoClass=>k_is)
    (case ex_NoClass=>k_exc)
    (case b_NoPlace=>k_is)
    (case hd_NoPlace=>k_is)
    (case ga_NoPlace=>k_is)
    (case gn_NoPlace=>k_is)
    (case sa_NoPlace=>k_is)
    (case cl_NoPlace=>k_is)
    (case be_NoPlace=>k_is)
    (case ob_NoPlace=>k_is)
    (case kp_NoPlace=>k_is)
    (case ci_NoPlace=>k_is)
    (case ti_NoPlace=>k_is)
    (case ex_NoPlace=>k_exc)
    (case b_NoShare=>k_is)
    (case hd_NoShare=>k_is)
    (case ga_NoShare=>k_is)
    (case gn_NoShare=>k_is)
    (case sa_NoShare=>k_is)
    (case cl_NoShare=>k_is)
    (case be_NoShare=>k_is)
    (case ob_NoShare=>k_is)
    (case kp_NoShare=>k_is)
    (case ci_NoShare=>k_is)
    (case ti_NoShare=>k_is)
    (case ex_NoShare=>k_exc)
    (case b_NoLength=>k_is)
    (case hd_NoLength=>k_is)
    (case ga_NoLength=>k_is)
    (case gn_NoLength=>k_is)
    (case sa_NoLength=>k_is)
    (case cl_NoLength=>k_is)
    (case be_NoLength=>k_is)
    (case ob_NoLength=>k_is)
    (case kp_NoLength=>k_is)
    (case ci_NoLength=>k_is)
    (case ti_NoLength=>k_is)
    (case ex_NoLength=>k_exc)
    (case kg=>k_is)
    (case kt=>k_is)
    (case s_NoName_NoName=>k_is)
    (case s_NoName_Taken=>k_is)
    (case n_NoName_Taken=>rfl)
    (case s_NoName_NoClass=>k_is)
    (case n_NoName_NoClass=>rfl)
    (case s_NoName_NoPlace=>k_is)
    (case n_NoName_NoPlace=>rfl)
    (case s_NoName_NoShare=>k_is)
    (case n_NoName_NoShare=>rfl)
    (case s_NoName_NoLength=>k_is)
    (case n_NoName_NoLength=>rfl)
    (case v_NoName_VE=>k_is)
    (case s_Taken_NoName=>k_is)
    (case n_Taken_NoName=>rfl)
    (case s_Taken_Taken=>k_is)
    (case s_Taken_NoClass=>k_is)
    (case n_Taken_NoClass=>rfl)
    (case s_Taken_NoPlace=>k_is)
    (case n_Taken_NoPlace=>rfl)
    (case s_Taken_NoShare=>k_is)
    (case n_Taken_NoShare=>rfl)
    (case s_Taken_NoLength=>k_is)
    (case n_Taken_NoLength=>rfl)
    (case v_Taken_VE=>k_is)
    (case s_NoClass_NoName=>k_is)
    (case n_NoClass_NoName=>rfl)
    (case s_NoClass_Taken=>k_is)
    (case n_NoClass_Taken=>rfl)
    (case s_NoClass_NoClass=>k_is)
    (case s_NoClass_NoPlace=>k_is)
    (case n_NoClass_NoPlace=>rfl)
    (case s_NoClass_NoShare=>k_is)
    (case n_NoClass_NoShare=>rfl)
    (case s_NoClass_NoLength=>k_is)
    (case n_NoClass_NoLength=>rfl)
    (case v_NoClass_VE=>k_is)
    (case s_NoPlace_NoName=>k_is)
    (case n_NoPlace_NoName=>rfl)
    (case s_NoPlace_Taken=>k_is)
    (case n_NoPlace_Taken=>rfl)
    (case s_NoPlace_NoClass=>k_is)
    (case n_NoPlace_NoClass=>rfl)
    (case s_NoPlace_NoPlace=>k_is)
    (case s_NoPlace_NoShare=>k_is)
    (case n_NoPlace_NoShare=>rfl)
    (case s_NoPlace_NoLength=>k_is)
    (case n_NoPlace_NoLength=>rfl)
    (case v_NoPlace_VE=>k_is)
    (case s_NoShare_NoName=>k_is)
    (case n_NoShare_NoName=>rfl)
    (case s_NoShare_Taken=>k_is)
    (case n_NoShare_Taken=>rfl)
    (case s_NoShare_NoClass=>k_is)
    (case n_NoShare_NoClass=>rfl)
    (case s_NoShare_NoPlace=>k_is)
    (case n_NoShare_NoPlace=>rfl)
    (case s_NoShare_NoShare=>k_is)
    (case s_NoShare_NoLength=>k_is)
    (case n_NoShare_NoLength=>rfl)
    (case v_NoShare_VE=>k_is)
    (case s_NoLength_NoName=>k_is)
    (case n_NoLength_NoName=>rfl)
    (case s_NoLength_Taken=>k_is)
    (case n_NoLength_Taken=>rfl)
    (case s_NoLength_NoClass=>k_is)
    (case n_NoLength_NoClass=>rfl)
    (case s_NoLength_NoPlace=>k_is)
    (case n_NoLength_NoPlace=>rfl)
    (case s_NoLength_NoShare=>k_is)
    (case n_NoLength_NoShare=>rfl)
    (case s_NoLength_NoLength=>k_is)
    (case v_NoLength_VE=>k_is)
    (case a1=>k_is)
    (case l1=>k_is)
    (case c1=>k_is)
    (case k1=>k_is)
    (case a2=>k_is)
    (case l2=>k_is)
    (case c2=>k_is)
    (case k2=>k_is)
    (case a3=>k_is)
    (case l3=>k_is)
    (case c3=>k_is)
    (case k3=>k_is)
    (case a4=>k_is)
    (case l4=>k_is)
    (case c4=>k_is)
    (case k4=>k_is)
    (case a5=>k_is)
    (case l5=>k_is)
    (case c5=>k_is)
    (case k5=>k_is)
    (case a6=>k_is)
    (case l6=>k_is)
    (case c6=>k_is)
    (case k6=>k_is)
    (case a7=>k_is)
    (case l7=>k_is)
    (case c7=>k_is)
    (case k7=>k_is)
    (case a8=>k_is)
    (case l8=>k_is)
    (case c8=>k_is)
    (case k8=>k_is)
    (case a9=>k_is)
    (case l9=>k_is)
    (case c9=>k_is)
    (case k9=>k_is)
    (case a10=>k_is)
    (case l10=>k_is)
    (case c10=>k_is)
    (case k10=>k_is)
    (case a11=>k_is)
    (case l11=>k_is)
    (case c11=>k_is)
    (case k11=>k_is)
    (case a12=>k_is)
    (case l12=>k_is)
    (case c12=>k_is)
    (case k12=>k_is)
    (case a13=>k_is)
    (case l13=>k_is)
    (case c13=>k_is)
    (case k13=>k_is)
    (case a14=>k_is)
    (case l14=>k_is)
    (case c14=>k_is)
    (case k14=>k_is)
    (case a15=>k_is)
    (case l15=>k_is)
    (case c15=>k_is)
    (case k15=>k_is)
    (case a16=>k_is)
    (case l16=>k_is)
    (case c16=>k_is)
    (case k16=>k_is)
    (case a17=>k_is)
    (case l17=>k_is)
    (case c17=>k_is)
    (case k17=>k_is)
    (case a18=>k_is)
    (case l18=>k_is)
    (case c18=>k_is)
    (case k18=>k_is)
    (case a19=>k_is)
    (case l19=>k_is)
    (case c19=>k_is)
    (case k19=>k_is)
    (case a20=>k_is)
    (case l20=>k_is)
    (case c20=>k_is)
    (case k20=>k_is)
    (case a21=>k_is)
    (case l21=>k_is)
    (case c21=>k_is)
    (case k21=>k_is)
    (case a22=>k_is)
    (case l22=>k_is)
    (case c22=>k_is)
    (case k22=>k_is)
    (case a23=>k_is)
    (case l23=>k_is)
    (case c23=>k_is)
    (case k23=>k_is)
    (case z1=>k_is)
    (case z2=>k_is)
    (case z3=>k_is)
    (case z4=>k_is)
    (case z5=>k_is)
    (case z6=>k_is)
    (case z7=>k_is)
    (case z8=>k_is)
    (case z9=>k_is)
    (case z10=>k_is)
    (case v_GREATEST_SHARE=>k_is)
    (case v_GREATEST_LENGTH=>k_is)
    (case v_LETTERS=>k_is)
    (case v_LONGEST_NAME=>k_is)
    (case v_ROAD=>k_is)
    (case v_INNER_KINDS=>k_is)
    (case w_INNER_KINDS=>k_is)
    (case v_LONGEST_WAY=>k_is)
    (case v_LEAF=>k_is)
    (case b_Members=>k_is)
    (case pg_Members=>k_is)
    (case hd_Members=>k_is)
    (case po_Members=>k_is)
    (case sa_Members=>k_is)
    (case mk_Members=>k_is)
    (case kc_Members=>k_is)
    (case na_Members_shares=>k_is)
    (case a_Members_init=>k_is)
    (case i_Members_init_fn=>k_is)
    (case l_Members_init=>k_is)
    (case c_Members_init_cd=>k_is)
    (case k_Members_init=>k_is)
    (case a_Members_check_name=>k_is)
    (case i_Members_check_name_fn=>k_is)
    (case l_Members_check_name=>k_is)
    (case c_Members_check_name_cd=>k_is)
    (case k_Members_check_name=>k_is)
    (case a_Members_put=>k_is)
    (case i_Members_put_fn=>k_is)
    (case l_Members_put=>k_is)
    (case c_Members_put_cd=>k_is)
    (case k_Members_put=>k_is)
    (case a_Members_take=>k_is)
    (case i_Members_take_fn=>k_is)
    (case l_Members_take=>k_is)
    (case c_Members_take_cd=>k_is)
    (case k_Members_take=>k_is)
    (case a_Members_names=>k_is)
    (case i_Members_names_fn=>k_is)
    (case l_Members_names=>k_is)
    (case c_Members_names_cd=>k_is)
    (case k_Members_names=>k_is)
    (case b_Chooser=>k_is)
    (case b_Starts=>k_is)
    (case pg_Starts=>k_is)
    (case hd_Starts=>k_is)
    (case po_Starts=>k_is)
    (case sa_Starts=>k_is)
    (case mk_Starts=>k_is)
    (case kc_Starts=>k_is)
    (case na_Starts_reached=>k_is)
    (case na_Starts_tags=>k_is)
    (case na_Starts_greatest_steps=>k_is)
    (case na_Starts_most=>k_is)
    (case na_Starts_members=>k_is)
    (case na_Starts_chosen=>k_is)
    (case a_Starts_init=>k_is)
    (case i_Starts_init_fn=>k_is)
    (case l_Starts_init=>k_is)
    (case c_Starts_init_cd=>k_is)
    (case k_Starts_init=>k_is)
    (case a_Starts_enter=>k_is)
    (case i_Starts_enter_fn=>k_is)
    (case l_Starts_enter=>k_is)
    (case c_Starts_enter_cd=>k_is)
    (case k_Starts_enter=>k_is)
    (case a_Starts_leave=>k_is)
    (case i_Starts_leave_fn=>k_is)
    (case l_Starts_leave=>k_is)
    (case c_Starts_leave_cd=>k_is)
    (case k_Starts_leave=>k_is)
    (case a_Starts_stands=>k_is)
    (case i_Starts_stands_fn=>k_is)
    (case l_Starts_stands=>k_is)
    (case c_Starts_stands_cd=>k_is)
    (case k_Starts_stands=>k_is)
    (case a_Starts_up_Chooser=>k_is)
    (case i_Starts_up_Chooser_fn=>k_is)
    (case l_Starts_up_Chooser=>k_is)
    (case c_Starts_up_Chooser_cd=>k_is)
    (case r_Starts_up_Chooser=>k_is)
    (case q_Starts_up_Chooser=>k_is)
    (case g_Starts_up_Chooser=>k_is)
    (case k_Starts_up_Chooser=>k_is)
    (case a_Starts_put=>k_is)
    (case i_Starts_put_fn=>k_is)
    (case l_Starts_put=>k_is)
    (case c_Starts_put_cd=>k_is)
    (case k_Starts_put=>k_is)
    (case a_Starts_take=>k_is)
    (case i_Starts_take_fn=>k_is)
    (case l_Starts_take=>k_is)
    (case c_Starts_take_cd=>k_is)
    (case k_Starts_take=>k_is)
    (case a_Starts_names=>k_is)
    (case i_Starts_names_fn=>k_is)
    (case l_Starts_names=>k_is)
    (case c_Starts_names_cd=>k_is)
    (case k_Starts_names=>k_is)
    (case b_Rounds=>k_is)
    (case pg_Rounds=>k_is)
    (case hd_Rounds=>k_is)
    (case po_Rounds=>k_is)
    (case sa_Rounds=>k_is)
    (case mk_Rounds=>k_is)
    (case kc_Rounds=>k_is)
    (case na_Rounds_queue=>k_is)
    (case na_Rounds_rests=>k_is)
    (case na_Rounds_turn=>k_is)
    (case na_Rounds_most=>k_is)
    (case na_Rounds_members=>k_is)
    (case na_Rounds_chosen=>k_is)
    (case a_Rounds_init=>k_is)
    (case i_Rounds_init_fn=>k_is)
    (case l_Rounds_init=>k_is)
    (case c_Rounds_init_cd=>k_is)
    (case k_Rounds_init=>k_is)
    (case a_Rounds_enter=>k_is)
    (case i_Rounds_enter_fn=>k_is)
    (case l_Rounds_enter=>k_is)
    (case c_Rounds_enter_cd=>k_is)
    (case k_Rounds_enter=>k_is)
    (case a_Rounds_leave=>k_is)
    (case i_Rounds_leave_fn=>k_is)
    (case l_Rounds_leave=>k_is)
    (case c_Rounds_leave_cd=>k_is)
    (case k_Rounds_leave=>k_is)
    (case a_Rounds_rest=>k_is)
    (case i_Rounds_rest_fn=>k_is)
    (case l_Rounds_rest=>k_is)
    (case c_Rounds_rest_cd=>k_is)
    (case k_Rounds_rest=>k_is)
    (case a_Rounds_up_Chooser=>k_is)
    (case i_Rounds_up_Chooser_fn=>k_is)
    (case l_Rounds_up_Chooser=>k_is)
    (case c_Rounds_up_Chooser_cd=>k_is)
    (case r_Rounds_up_Chooser=>k_is)
    (case q_Rounds_up_Chooser=>k_is)
    (case g_Rounds_up_Chooser=>k_is)
    (case k_Rounds_up_Chooser=>k_is)
    (case a_Rounds_put=>k_is)
    (case i_Rounds_put_fn=>k_is)
    (case l_Rounds_put=>k_is)
    (case c_Rounds_put_cd=>k_is)
    (case k_Rounds_put=>k_is)
    (case a_Rounds_take=>k_is)
    (case i_Rounds_take_fn=>k_is)
    (case l_Rounds_take=>k_is)
    (case c_Rounds_take_cd=>k_is)
    (case k_Rounds_take=>k_is)
    (case a_Rounds_names=>k_is)
    (case i_Rounds_names_fn=>k_is)
    (case l_Rounds_names=>k_is)
    (case c_Rounds_names_cd=>k_is)
    (case k_Rounds_names=>k_is)
    (case b_Node=>k_is)
    (case pg_Node=>k_is)
    (case hd_Node=>k_is)
    (case po_Node=>k_is)
    (case sa_Node=>k_is)
    (case mk_Node=>k_is)
    (case kc_Node=>k_is)
    (case na_Node_above=>k_is)
    (case na_Node_chooser=>k_is)
    (case na_Node_room=>k_is)
    (case na_Node_bucket=>k_is)
    (case na_Node_queue=>k_is)
    (case a_Node_init=>k_is)
    (case i_Node_init_fn=>k_is)
    (case l_Node_init=>k_is)
    (case c_Node_init_cd=>k_is)
    (case k_Node_init=>k_is)
    (case dk_Node_init=>k_is)
    (case a_Node_has_children=>k_is)
    (case i_Node_has_children_fn=>k_is)
    (case l_Node_has_children=>k_is)
    (case c_Node_has_children_cd=>k_is)
    (case k_Node_has_children=>k_is)
    (case a_Node_has_room_for=>k_is)
    (case i_Node_has_room_for_fn=>k_is)
    (case l_Node_has_room_for=>k_is)
    (case c_Node_has_room_for_cd=>k_is)
    (case k_Node_has_room_for=>k_is)
    (case b_Tree=>k_is)
    (case pg_Tree=>k_is)
    (case hd_Tree=>k_is)
    (case po_Tree=>k_is)
    (case sa_Tree=>k_is)
    (case mk_Tree=>k_is)
    (case kc_Tree=>k_is)
    (case na_Tree_most=>k_is)
    (case na_Tree_nodes=>k_is)
    (case na_Tree_time=>k_is)
    (case na_Tree_free=>k_is)
    (case na_Tree_counted=>k_is)
    (case na_Tree_gone=>k_is)
    (case a_Tree_init=>k_is)
    (case i_Tree_init_fn=>k_is)
    (case l_Tree_init=>k_is)
    (case c_Tree_init_cd=>k_is)
    (case k_Tree_init=>k_is)
    (case dk_Tree_init=>k_is)
    (case a_Tree_check_class=>k_is)
    (case i_Tree_check_class_fn=>k_is)
    (case l_Tree_check_class=>k_is)
    (case c_Tree_check_class_cd=>k_is)
    (case k_Tree_check_class=>k_is)
    (case a_Tree_check_leaf=>k_is)
    (case i_Tree_check_leaf_fn=>k_is)
    (case l_Tree_check_leaf=>k_is)
    (case c_Tree_check_leaf_cd=>k_is)
    (case k_Tree_check_leaf=>k_is)
    (case a_Tree_check_place=>k_is)
    (case i_Tree_check_place_fn=>k_is)
    (case l_Tree_check_place=>k_is)
    (case c_Tree_check_place_cd=>k_is)
    (case k_Tree_check_place=>k_is)
    (case a_Tree_put=>k_is)
    (case i_Tree_put_fn=>k_is)
    (case l_Tree_put=>k_is)
    (case c_Tree_put_cd=>k_is)
    (case k_Tree_put=>k_is)
    (case dk_Tree_put=>k_is)
    (case a_Tree_take=>k_is)
    (case i_Tree_take_fn=>k_is)
    (case l_Tree_take=>k_is)
    (case c_Tree_take_cd=>k_is)
    (case k_Tree_take=>k_is)
    (case a_Tree_come=>k_is)
    (case i_Tree_come_fn=>k_is)
    (case l_Tree_come=>k_is)
    (case c_Tree_come_cd=>k_is)
    (case k_Tree_come=>k_is)
    (case a_Tree_now=>k_is)
    (case i_Tree_now_fn=>k_is)
    (case l_Tree_now=>k_is)
    (case c_Tree_now_cd=>k_is)
    (case k_Tree_now=>k_is)
    (case a_Tree_goings=>k_is)
    (case i_Tree_goings_fn=>k_is)
    (case l_Tree_goings=>k_is)
    (case c_Tree_goings_cd=>k_is)
    (case k_Tree_goings=>k_is)
    (case a_Tree_waiting=>k_is)
    (case i_Tree_waiting_fn=>k_is)
    (case l_Tree_waiting=>k_is)
    (case c_Tree_waiting_cd=>k_is)
    (case k_Tree_waiting=>k_is)
    (case a_Tree_way=>k_is)
    (case i_Tree_way_fn=>k_is)
    (case l_Tree_way=>k_is)
    (case c_Tree_way_cd=>k_is)
    (case k_Tree_way=>k_is)
    (case a_Tree_below=>k_is)
    (case i_Tree_below_fn=>k_is)
    (case l_Tree_below=>k_is)
    (case c_Tree_below_cd=>k_is)
    (case k_Tree_below=>k_is)
    (case a_Tree_chooser_over=>k_is)
    (case i_Tree_chooser_over_fn=>k_is)
    (case l_Tree_chooser_over=>k_is)
    (case c_Tree_chooser_over_cd=>k_is)
    (case k_Tree_chooser_over=>k_is)
    (case a_Tree_from_road=>k_is)
    (case i_Tree_from_road_fn=>k_is)
    (case l_Tree_from_road=>k_is)
    (case c_Tree_from_road_cd=>k_is)
    (case k_Tree_from_road=>k_is)
    (case ci_Chooser=>k_is)
    (case ti_Chooser=>k_is)
    (case ic_Starts=>k_is)
    (case io_Starts=>k_is)
    (case s_Starts_Chooser=>k_is)
    (case n_Starts_Chooser=>rfl)
    (case ic_Rounds=>k_is)
    (case io_Rounds=>k_is)
    (case s_Rounds_Chooser=>k_is)
    (case n_Rounds_Chooser=>rfl)
